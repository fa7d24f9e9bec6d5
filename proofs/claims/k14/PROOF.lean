import PyProof.Rows.All
import Wide.All
import OpenK.AllK
import Wide.FinOn
import HandS.ForMost
import HandS.EndBits
import HandS.Evl
import HandS.Wide
import HandS.IsInst
import HandS.TupAny
import HandS.Zip
import HandS.Walk
import HandS.More
import HandS.Strs
import HandS.SetFor
import HandS.SortInts
import HandS.ExcOwn
import KE.SortData
import HandS.WideBits
import HandS.TupSets
import HandS.IterVal
import HandS.OwnIter
import HandS.Property
import HandS.Codes
import HandS.Deep
import HandS.WordsExc
import HandS.TryOnly
import PyProof.InstSpecial
import HandS.Conv
import PyProof.P3In
import HandS.TryMany
import PyProof.TupleOfSeq
import HandS.Style
import PySem.Challenge.RW_thingwise_k14_whole_closures_by_single_l
set_option Elab.async false
set_option linter.all false
set_option maxRecDepth 100000
set_option maxHeartbeats 2000000
namespace TW
open PySem PySem.Spec PyProof.Rows L2
abbrev Ex (H H' : Hp) : Prop := Evl.Ex H H'
theorem Ex.rfl' {H : Hp} : Ex H H := Evl.Ex.refl H
/-! what stands beside H0: the things of l, each apart from the others -/
structure Has (H0 H : Hp) (l : List (Addr × HO)) : Prop where
  ex : Ex H0 H
  own : ∀ q ∈ l, H0 q.1 = none ∧ H q.1 = some q.2
  nd : (l.map (·.1)).Nodup
/-- all but the thing at w stays -/
def But (w : Addr) (H H' : Hp) : Prop := ∀ a o, a ≠ w → H a = some o → H' a = some o
theorem But.ex {w : Addr} {H H' : Hp} (e : Ex H H') : But w H H' := fun a o _ h => e a o h
theorem But.upd {w : Addr} {H : Hp} {o : HO} : But w H (upd H w o) := fun a u n h => by rw [upd_ne n]; exact h
theorem But.trans {w : Addr} {H H1 H2 : Hp} (a : But w H H1) (b : But w H1 H2) : But w H H2 := fun c o n h => b c o n (a c o n h)
theorem But.refl {w : Addr} {H : Hp} : But w H H := fun _ _ _ h => h
theorem But.free {w : Addr} {H H' : Hp} {p : Addr} {o : HO} (b : But w H H') (h : H' p = none) (hw : H' w = some o) : H p = none := by
  cases e : H p with
  | none => rfl
  | some u =>
    have n : p ≠ w := fun z => by rw [z, hw] at h; cases h
    rw [b p u n e] at h
    cases h
section
variable {H0 H H' : Hp} {l : List (Addr × HO)} {p w : Addr} {o o' : HO}
theorem Has.nil : Has H H [] := ⟨Evl.Ex.refl H, fun q h => absurd h List.not_mem_nil, List.Pairwise.nil⟩
theorem Has.get (h : Has H0 H l) (i : Nat) (hi : l[i]? = some (p, o)) : H p = some o := (h.own _ (List.mem_of_getElem? hi)).2
theorem Has.fr (h : Has H0 H l) (i : Nat) (hi : l[i]? = some (p, o)) : H0 p = none := (h.own _ (List.mem_of_getElem? hi)).1
theorem Has.new (h : Has H0 H l) (hp : H p = none) : Has H0 (upd H p o) ((p, o) :: l) := by
  refine ⟨h.ex.trans (Evl.Ex.new hp), fun q hq => ?_, ?_⟩
  · rcases List.mem_cons.mp hq with e | e
    · subst e
      exact ⟨Evl.fresh_back h.ex hp, upd_same⟩
    · obtain ⟨a, b⟩ := h.own q e
      exact ⟨a, by rw [upd_ne (ne_of_none b hp)]; exact b⟩
  · rw [List.map_cons, List.nodup_cons]
    refine ⟨fun z => ?_, h.nd⟩
    obtain ⟨q, hq, e⟩ := List.mem_map.mp z
    have b := (h.own q hq).2
    rw [e, hp] at b
    cases b
theorem Has.go (h : Has H0 H l) (e : Ex H H') : Has H0 H' l := ⟨h.ex.trans e, fun q hq => ⟨(h.own q hq).1, e _ _ (h.own q hq).2⟩, h.nd⟩
/-- a new thing behind an extension -/
theorem Has.newE (h : Has H0 H l) (e : Ex H H') (hp : H p = none) (hv : H' p = some o) : Has H0 H' ((p, o) :: l) := by
  refine ⟨h.ex.trans e, fun q hq => ?_, ?_⟩
  · rcases List.mem_cons.mp hq with z | z
    · subst z
      exact ⟨Evl.fresh_back h.ex hp, hv⟩
    · exact ⟨(h.own q z).1, e _ _ (h.own q z).2⟩
  · rw [List.map_cons, List.nodup_cons]
    refine ⟨fun z => ?_, h.nd⟩
    obtain ⟨q, hq, z2⟩ := List.mem_map.mp z
    have b := (h.own q hq).2
    rw [z2, hp] at b
    cases b
theorem nodup_at {α : Type} : ∀ {l : List α} {i j : Nat} {x : α}, l.Nodup → l[i]? = some x → l[j]? = some x → i = j := by
  intro l i j x nd hi hj
  obtain ⟨hi1, hi2⟩ := List.getElem?_eq_some_iff.mp hi
  obtain ⟨hj1, hj2⟩ := List.getElem?_eq_some_iff.mp hj
  rcases Nat.lt_trichotomy i j with c | c | c
  · exact absurd (hi2.trans hj2.symm) (List.pairwise_iff_getElem.mp nd i j hi1 hj1 c)
  · exact c
  · exact absurd (hj2.trans hi2.symm) (List.pairwise_iff_getElem.mp nd j i hj1 hi1 c)
/-- the i-th thing changes, all else stays -/
theorem Has.setB (h : Has H0 H l) (i : Nat) (hi : l[i]? = some (w, o)) (b : But w H H') (hv : H' w = some o') : Has H0 H' (l.set i (w, o')) := by
  have em : (l.set i (w, o')).map (·.1) = l.map (·.1) := by
    rw [List.map_set]
    refine List.ext_getElem? fun j => ?_
    by_cases e : i = j
    · subst e
      obtain ⟨h1, h2⟩ := List.getElem?_eq_some_iff.mp hi
      rw [List.getElem?_set_self (by rw [List.length_map]; exact h1), List.getElem?_map, hi]
      rfl
    · rw [List.getElem?_set_ne e]
  have nw : H0 w = none := h.fr i hi
  refine ⟨fun a u e => b a u (ne_of_none e nw) (h.ex a u e), fun q hq => ?_, by rw [em]; exact h.nd⟩
  obtain ⟨j, hj⟩ := List.mem_iff_getElem?.mp hq
  by_cases e : i = j
  · subst e
    obtain ⟨h1, _⟩ := List.getElem?_eq_some_iff.mp hi
    rw [List.getElem?_set_self h1] at hj
    cases hj
    exact ⟨nw, hv⟩
  · rw [List.getElem?_set_ne e] at hj
    obtain ⟨a, c⟩ := h.own q (List.mem_of_getElem? hj)
    refine ⟨a, b _ _ (fun z => e ?_) c⟩
    refine nodup_at h.nd (x := w) ?_ ?_
    · rw [List.getElem?_map, hi]
      rfl
    · rw [List.getElem?_map, hj, ← z]
      rfl
theorem Has.set (h : Has H0 H l) (i : Nat) (hi : l[i]? = some (w, o)) : Has H0 (upd H w o') (l.set i (w, o')) := h.setB i hi But.upd upd_same
theorem Has.sub {l' : List (Addr × HO)} (h : Has H0 H l) (s : l'.Sublist l) : Has H0 H l' := ⟨h.ex, fun q hq => h.own q (s.subset hq), (s.map _).nodup h.nd⟩
theorem Has.tail {q : Addr × HO} (h : Has H0 H (q :: l)) : Has H0 H l := h.sub (List.sublist_cons_self _ _)
/-- a new thing behind a step that changes w -/
theorem Has.newB (h : Has H0 H l) (i : Nat) (hi : l[i]? = some (w, o)) (hp : H p = none) (hv : H' p = some o') : p ≠ w := fun z => by
  have a := h.get i hi
  rw [← z, hp] at a
  cases a
/-- adding a thing that H0 does not know and that stands apart -/
theorem Has.add (h : Has H0 H l) (hp : H0 p = none) (hv : H p = some o) (na : p ∉ l.map (·.1)) : Has H0 H ((p, o) :: l) := by
  refine ⟨h.ex, fun q hq => ?_, List.nodup_cons.mpr ⟨na, h.nd⟩⟩
  rcases List.mem_cons.mp hq with z | z
  · subst z
    exact ⟨hp, hv⟩
  · exact h.own q z
theorem Has.notin (h : Has H0 H l) (hp : H p = none) : p ∉ l.map (·.1) := fun z => by
  obtain ⟨q, hq, z2⟩ := List.mem_map.mp z
  have b := (h.own q hq).2
  rw [z2, hp] at b
  cases b
end
/-! defs by their names -/
def Dfn (K : PySem.W.Frag) (mg : Str → Option Value) (x : Str) (st : Stmt) (ps : List Str) : Prop := ∃ (f : Addr) (fd : FuncData), Fun K x x st f fd ∧ mg x = some (.ref f) ∧ Binds K fd ps []
def Ok (P : Program) (w : World) (K : PySem.W.Frag) (mg : Str → Option Value) (base : Heap) (k : Nat) (x : Str) (ps : List Str) (sp : Sp) : Prop :=
  ∃ (f : Addr) (fd : FuncData), FnOk P w K mg base CX0 k f fd ps sp ∧ mg x = some (.ref f) ∧ PySem.W.keepIn K (.ref f) = true ∧ Binds K fd ps []
theorem Dfn.ok {P : Program} {w : World} {K : PySem.W.Frag} {mg : Str → Option Value} {base : Heap} {k : Nat} {x : Str} {st : Stmt} {ps : List Str} {sp : Sp} (D : Dfn K mg x st ps)
    (h : ∀ f fd, Fun K x x st f fd → FnOk P w K mg base CX0 k f fd ps sp) : Ok P w K mg base k x ps sp := by
  obtain ⟨f, fd, F, g, b⟩ := D
  exact ⟨f, fd, h f fd F, g, F.kp, b⟩
theorem pe_o {X : Cx} {k : Nat} {x : Str} {ps : List Str} {sp : Sp} {e : Expr} {es : List Expr} {t : TA} {p pos : Pos} (O : Ok X.prog X.w X.K X.mg X.base k x ps sp) (hr : Room k X.A) (ha : PA X (e :: es) t) (hg : Gl X x := by rfl)
    (hdb : (x == ("__debug__" : Str)) = false := by decide) (he : starEach (e :: es) X.env = (false, eval e X.env) :: starEach es X.env := by rfl) (hpl : (backTo pos (starEach es X.env)).any (·.1) = false := by rfl) :
    PE X (.Call (.Name x p) (e :: es) [] pos) (tCall sp [] E0 t) := by
  obtain ⟨f, fd, F, g, kp, b⟩ := O
  exact pe_call F hr hg g kp b .nil pass0 ha hdb he hpl
theorem dfn_mk {K : PySem.W.Frag} {mg : Str → Option Value} {h : Heap} {x : Str} {st : Stmt} {ps : List Str} {f : Addr} {oc : Value} {od an : Option Addr} {osl : Array (Option Value)} {kV doc pm cdv ct : Value}
    (X : K.In h) (G : h.Ns mainGlobals mg) (hb : ∀ (kV doc pm : Value) (an : Option Addr) (f' cdv ct : Value) (us : List Value), us.length = ps.length → bindArgs (PySem.W.fnOf x x (defArgs st) (defBody st) (defScope st) .none kV doc pm an cdv ct) ⟨us, []⟩ = pure (ps.zip us))
    (a : PySem.W.nsIn K mainGlobals x = some (some (.ref f))) (l : K.lookup f = some ⟨oc, od, .func (PySem.W.fnOf x x (defArgs st) (defBody st) (defScope st) .none kV doc pm an cdv ct), osl⟩)
    (c : PySem.W.codeIn K cdv x = true) (k : PySem.W.keepIn K (.ref f) = true) : Dfn K mg x st ps := by
  have F := fun_mk (st := st) l c k
  exact ⟨f, _, F, PySem.W.mg_of X G a, F.binds fun kV doc pm an cdv ct us hl => hb kV doc pm an .none cdv ct us hl⟩

theorem walk_zipT {K : PySem.W.Frag} {a b : Addr} {xs ys : List V} {n : Nat} (hn : n = min xs.length ys.length) : Walk (RZ.ItzT K a b) n (fun H => SqT K H a xs ∧ SqT K H b ys)
    (fun i H v H' => ∃ T x y, v = .ref T ∧ H T = none ∧ H' = upd H T (.tup [x, y]) ∧ xs[i]? = some x ∧ ys[i]? = some y) := by
  subst hn
  refine ⟨fun i H hi q => ?_, fun H q => ⟨xs, ys, q.1, q.2, by omega⟩, fun i H v H' hi q y => ?_⟩
  · have h1 : i < xs.length := by omega
    have h2 : i < ys.length := by omega
    exact ⟨xs, ys, xs[i], ys[i], q.1, q.2, List.getElem?_eq_getElem h1, List.getElem?_eq_getElem h2⟩
  · obtain ⟨T, x, z, rfl, hT, rfl, f1, f2⟩ := y
    exact ⟨T, x, z, rfl, hT, rfl, f1 xs q.1, f2 ys q.2⟩
theorem take_snoc {α : Type} {l : List α} {i : Nat} {x : α} (h : l[i]? = some x) : l.take (i + 1) = l.take i ++ [x] := by
  rw [List.take_add_one, h]
  rfl
theorem sz {n : Nat} (h : n ≤ 100000) : n ≤ sizeLine := Evl.sz_of h
theorem szl {n : Nat} (h : n < 100000) : n < sizeLine := Evl.sz_lt h
end TW
set_option Elab.async false
set_option linter.all false
set_option maxRecDepth 100000
set_option maxHeartbeats 4000000
namespace TW
open PySem PySem.Spec PyProof.Rows L2
/-- an empty set as it is made -/
abbrev fresh0 (w : World) : Obj := { cls := .type "set", dict := none, data := .set #[] 0 (.fresh 0 0 (!w.params.followText "set-order")) }
section
variable {P : Program} {w : World} {A : Around} {E : Value → Shared → Prop} {s : Shared}
theorem set_of_ints {l : Addr} {its : Array Value} (ns : List Int) {Q : Value → Shared → Prop} (noh : A.handled = none) (il : s.heap.IsList l its) (ii : IntsAre its.toList ns) (few : ns.length + 1 < scanBound)
    (go : ∀ (g : Heap) (tk c : Nat), SetR w g s.heap.objs.size (fun j => decide (j ∈ ns)) c → c ≤ ns.length → (∀ b o, s.heap.get? b = some o → g.get? b = some o) → Q (.ref s.heap.objs.size) { s with heap := g, toks := tk }) :
    wpAny (model P w) A (call (.type "set") [.ref l]) Q E s := by
  have size_eq : its.size = ns.length := by simpa using ii.length
  have C := F.called_set
  obtain ⟨c, tl, mro⟩ := C.mro
  have made_ := C.made
  have sub_ := C.sub
  have nt := C.notType
  have cc := C.canCreate
  have tc1 := F.typeCall_set_1 (.ref l)
  refine wpAny_call (codeAny_of_tree ?_)
  change wpAny _ _ (callAny (Value.type "set") ⟨[.ref l], []⟩) _ _ _
  refine wpAny_pure ⟨Code.quiet_builtin _ (by decide +kernel), codeAny_builtin F.entry_type_call ?_⟩
  rw [Around.under_plain (weight_type_call_type "set" _ _) rfl]
  repeat (any_goals (first | assumption | wp_step))
  refine codeAny_mono (code_set_led1 (.ref l) (E := E) (Q₁ := fun ob t => ob = .ref s.heap.objs.size ∧ t = { s with heap := s.heap.push (fresh0 w) }) ⟨rfl, rfl⟩) fun r t hr => ?_
  match r, hr with
  | .error e, hr => exact hr
  | .ok (.ret ob), hr =>
    obtain ⟨rfl, rfl⟩ := hr
    have at0 : (s.heap.push (fresh0 w)).get? s.heap.objs.size = some (fresh0 w) := Heap.get?_push_size _ rfl
    have ty0 : Shared.TypeIs { s with heap := s.heap.push (fresh0 w) } (.ref s.heap.objs.size) "set" := ⟨_, at0, rfl⟩
    have look_ := C.init.lookup
    have bind_ := C.init.bind (.ref s.heap.objs.size)
    repeat (any_goals (first | assumption | wp_step))
    refine codeAny_mono (codeAny_call_builtin (R := wants (fun r t => r = .none ∧ ∃ g tk c, t = { s with heap := g, toks := tk } ∧ SetR w g s.heap.objs.size (fun j => decide (j ∈ ns)) c ∧ c ≤ ns.length ∧ (∀ b o, s.heap.get? b = some o → g.get? b = some o)) E) C.init.plain F.entry_set_init (check_set_init_1 ty0 ?_)) fun r2 t2 hr2 => ?_
    · obtain ⟨⟨lc, ld, ldat, lsl⟩, lat, e1, nl, e2⟩ := il
      simp only at e1 e2
      subst e1
      subst e2
      have lat1 : (s.heap.push (fresh0 w)).get? l = some { cls := .type "list", dict := ld, data := .seq its nl, slots := lsl } := Heap.get?_push_of_some _ lat
      have k1 := F.sub_list_set
      have k2 := F.sub_list_frozenset
      have k3 : (Value.type "list" == Value.type "dict") = false := by decide
      have il1 : (s.heap.push (fresh0 w)).IsList l its := ⟨_, lat1, rfl, nl, rfl⟩
      unfold Builtin.«set.__init__» noKeywords Builtin.Frozenset.updateFrom
      generalize ePI : pyIter = PI
      wp_walk
      subst ePI
      refine wpAny_pyIter_list il1 (wpAny_bind (wpAny_runValue ?_))
      have ll := Heap.lt_size lat
      have sz1 : (s.heap.push (fresh0 w)).objs.size = s.heap.objs.size + 1 := Heap.size_push ..
      have noh3 : A.in1.in1.in1.handled = none := by simp [noh]
      have nI : l ≠ (s.heap.push (fresh0 w)).objs.size := sz1 ▸ Nat.ne_of_lt (Nat.lt_succ_of_lt ll)
      have nS : s.heap.objs.size ∉ [(s.heap.push (fresh0 w)).objs.size, l] := by
        simp only [List.mem_cons, List.not_mem_nil, or_false, not_or]
        exact ⟨sz1 ▸ Nat.ne_of_lt (Nat.lt_succ_self _), Nat.ne_of_gt ll⟩
      have vals_ : ∀ (i : Nat) (v : Value), its[i]? = some v → ∃ k t, ns[i]? = some k ∧ v = .int k t := fun i v hv => by
        have hi : i < ns.length := size_eq ▸ (Array.getElem?_eq_some_iff.mp hv).1
        obtain ⟨t, e⟩ := PyProof.Rows.IntsAre.int_at ii i v (by simpa using hv)
        refine ⟨ns[i], t, List.getElem?_eq_getElem hi, ?_⟩
        rw [e]
        simp [List.getD_eq_getElem?_getD, hi]
      refine set_update_ints ((Walks.list noh3 _ l nI its).toS) s.heap.objs.size nS ns size_eq few vals_ (its.size - 0) 0 _ (by omega) (Nat.zero_le _) ⟨⟨_, Heap.get?_push_size _ rfl, rfl, rfl⟩, il1.push _⟩ ⟨0, Nat.le_refl 0, setR_new_at (Heap.get?_push_of_some _ at0)⟩ ?_
      rintro ⟨g, g2, d2, tk, os2⟩ c2 mv c2l R2
      have z1 : g2 = s.gens := mv.gens
      have z2 : d2 = s.drawn := mv.drawn
      have z3 : os2 = s.os := mv.os
      subst z1 z2 z3
      show wpAny _ _ _ _ _ _
      refine wpAny_pure ?_
      show wpAny _ _ (ret Value.none) _ _ _
      refine wpAny_pure ⟨rfl, g, tk, c2, rfl, R2, by omega, fun b o e => ?_⟩
      have bl := Heap.lt_size e
      refine mv.heap b o ?_ (Heap.get?_push_of_some _ (Heap.get?_push_of_some _ e))
      simp only [List.mem_cons, List.not_mem_nil, or_false, not_or]
      exact ⟨Nat.ne_of_lt bl, sz1 ▸ Nat.ne_of_lt (Nat.lt_succ_of_lt bl)⟩
    · match r2, hr2 with
      | .error e, hr2 => exact hr2
      | .ok (.ret r3), hr2 =>
        obtain ⟨rfl, g, tk, c2, rfl, R2, c2l, kp⟩ := hr2
        repeat (any_goals (first | assumption | wp_step))
        exact go _ _ _ R2 c2l kp
      | .ok .next, hr2 => exact hr2.elim
      | .ok .brk, hr2 => exact hr2.elim
      | .ok .cont, hr2 => exact hr2.elim
  | .ok .next, hr => exact hr.elim
  | .ok .brk, hr => exact hr.elim
  | .ok .cont, hr => exact hr.elim
end
section
variable {X : Cx}
/-- set(xs), xs a list of ints -/
def rSetI (K : PySem.W.Frag) (w : World) : List V → Hp → VK → Prop := fun xs H Q => ∃ (l : Addr) (ns : List Int), xs = [V.ref l] ∧ SqL K H l (ns.map V.int) ∧ ns.length ≤ 4000 ∧
  ∀ a c, H a = none → c ≤ ns.length → Q (.ref a) (upd H a (SetO w a (fun j => decide (j ∈ ns)) c))
theorem cr_setI (hc : X.calm = true) : CallR X (.type "set") (rSetI X.K X.w) := by
  intro pins s σ H xs us Q I r h
  obtain ⟨l, ns, rfl, hl, hf, q⟩ := h
  rw [Vals.ref1 r]
  obtain ⟨its, rv, pl, hz⟩ := I.list hl
  have hn : H s.heap.objs.size = none := I.hok.fresh (Nat.le_refl _)
  refine set_of_ints (P := X.prog) (w := X.w) ns (I.ok.hd hc) pl.isList (by simpa using RZ.intsAre_vals rv) (by unfold scanBound; omega) fun g tk c R hcl k => ?_
  exact ⟨.ref s.heap.objs.size, upd H s.heap.objs.size (SetO X.w s.heap.objs.size (fun j => decide (j ∈ ns)) c), I.laid (t' := tk) k (Nat.le_refl _) (setO_new R), rfl, q _ c hn hcl⟩
end
end TW
set_option Elab.async false
set_option linter.all false
set_option maxRecDepth 100000
namespace TW
open PySem PySem.Spec PyProof.Rows L2
section
variable {X : Cx} {K : PySem.W.Frag}
def rIxA (K : PySem.W.Frag) : R2 := fun x y H Q => rIxL K x y H Q ∨ rIxT K x y H Q
theorem ix_any (h : X.K = K := by rfl) : IxR X (rIxA K) := by
  subst h
  exact IxR.or ix_list ix_tup
theorem op_inK (h : X.K = K := by rfl) : OpR X (compareOp .In) (rIn K false) := by
  subst h
  exact op_in_seq
theorem op_notInK (h : X.K = K := by rfl) : OpR X (compareOp .NotIn) (rIn K true) := by
  subst h
  exact op_notIn_seq
def rTupOf (K : PySem.W.Frag) : List V → Hp → VK → Prop := fun xs H Q => ∃ p ys, xs = [.ref p] ∧ ((SqL K H p ys ∧ ∀ l, H l = none → Q (.ref l) (upd H l (.tup ys))) ∨ (SqT K H p ys ∧ Q (.ref p) H))
theorem call_tupleK (h : X.K = K := by rfl) : CallR X (.type "tuple") (rTupOf K) := by
  subst h
  exact call_tuple_of
def rLenOf (K : PySem.W.Frag) : List V → Hp → VK → Prop := fun xs H Q => ∃ p ys, xs = [.ref p] ∧ (SqL K H p ys ∨ SqT K H p ys) ∧ Q (.int ys.length) H
theorem call_lenK (h : X.K = K := by rfl) : CallR X (.builtin "len") (rLenOf K) := by
  subst h
  exact call_len_seq
def rListOf (K : PySem.W.Frag) : List V → Hp → VK → Prop := fun xs H Q => ∃ p ys, xs = [.ref p] ∧ (SqL K H p ys ∨ SqT K H p ys) ∧ ∀ l, H l = none → Q (.ref l) (upd H l (.lst ys))
theorem call_listK (h : X.K = K := by rfl) : CallR X (.type "list") (rListOf K) := by
  subst h
  exact call_list_of
theorem cr_allK (hc : X.calm = true) (h : X.K = K := by rfl) : CallR X (.builtin "all") (rAll K) := by
  subst h
  exact cr_all hc
theorem cr_setK {w : World} (hc : X.calm = true) (h : X.K = K := by rfl) (hw : X.w = w := by rfl) : CallR X (.type "set") (rSetI K w) := by
  subst h
  subst hw
  exact cr_setI hc
theorem cr_sortedSetK {w : World} (hc : X.calm = true) (hw : X.w = w := by rfl) : CallR X (.builtin "sorted") (rSortedSet w) := by
  subst hw
  exact cr_sortedSet hc
theorem cr_anyK (hc : X.calm = true) (h : X.K = K := by rfl) : CallR X (.builtin "any") (rAny K) := by
  subst h
  exact cr_any hc
end
end TW
set_option maxRecDepth 100000
namespace TW
open PySem PySem.Spec PyProof.Rows L2
def topS (i : Nat) : Stmt := PySem.Challenge.pw_thingwise_k14_whole_closures_by_single_l.main.body.getD i (.Pass ⟨0, 0, 0, 0⟩)
abbrev s_is_integer : Stmt := topS 11
abbrev s_is_thing : Stmt := topS 12
abbrev s_is_ascending : Stmt := topS 13
abbrev s_is_lot : Stmt := topS 14
abbrev s_is_literal : Stmt := topS 15
abbrev s_is_part : Stmt := topS 16
abbrev s_is_rule : Stmt := topS 17
abbrev s_check_things : Stmt := topS 18
abbrev s_check_lot : Stmt := topS 19
abbrev s_check_literal : Stmt := topS 20
abbrev s_check_rules : Stmt := topS 21
abbrev s_check_part : Stmt := topS 22
abbrev s_Table_init : Stmt := inClass (topS 24) 0
abbrev s_Table_things : Stmt := inClass (topS 24) 1
abbrev s_Table_lots : Stmt := inClass (topS 24) 2
abbrev s_Table_len : Stmt := inClass (topS 24) 3
abbrev s_Table_iter : Stmt := inClass (topS 24) 4
abbrev s_Table_contains : Stmt := inClass (topS 24) 5
abbrev s_Table_eq : Stmt := inClass (topS 24) 6
abbrev s_check_table : Stmt := topS 25
abbrev s_meets : Stmt := topS 26
abbrev s_keeps : Stmt := topS 27
abbrev s_keeps_all : Stmt := topS 28
abbrev s_has_rule : Stmt := topS 29
abbrev s_all_literals : Stmt := topS 30
abbrev s_all_lots : Stmt := topS 31
abbrev s_rules_of : Stmt := topS 32
abbrev s_table_of : Stmt := topS 33
abbrev s_closed_table : Stmt := topS 34
abbrev s_is_closed : Stmt := topS 35
abbrev s_check_closed : Stmt := topS 36
abbrev s_contrary : Stmt := topS 38
abbrev s_fits : Stmt := topS 39
abbrev s_can_be : Stmt := topS 40
abbrev s_closure : Stmt := topS 41
abbrev s_clash : Stmt := topS 42
abbrev s_why : Stmt := topS 43
abbrev s_fitting_lots : Stmt := topS 44
abbrev s__pairs : Stmt := topS 45
abbrev s__law_draws_of : Stmt := topS 47
abbrev s__law_dip : Stmt := topS 48
abbrev s__law_same : Stmt := topS 49
abbrev s__law_lot_of : Stmt := topS 50
abbrev s__law_met : Stmt := topS 51
abbrev s__law_all_kept : Stmt := topS 52
abbrev s__law_all_signs : Stmt := topS 53
abbrev s__law_one_sign : Stmt := topS 54
abbrev s__law_one_bar : Stmt := topS 55
abbrev s__law_some_bars : Stmt := topS 56
abbrev s__law_some_masks : Stmt := topS 57
abbrev s__law_make_table : Stmt := topS 58
abbrev s__law_reached : Stmt := topS 59
abbrev s__law_width : Stmt := topS 60
abbrev s__law_some_part : Stmt := topS 61
abbrev s__law_pairs_can : Stmt := topS 62
abbrev s__law_joint : Stmt := topS 63
abbrev s__law_more : Stmt := topS 64
abbrev s_law : Stmt := topS 65
end TW
set_option Elab.async false
set_option linter.all false
set_option maxRecDepth 100000
set_option maxHeartbeats 4000000
namespace TW
open PySem PySem.Spec PyProof.Rows L2
structure Z (mg : Str → Option Value) : Prop where
  len : mg "len" = none
  int : mg "int" = none
  all : mg "all" = none
  sorted : mg "sorted" = none
  tuple : mg "tuple" = none
  list : mg "list" = none
  set : mg "set" = none
  type : mg "type" = none
  isinstance : mg "isinstance" = none
  zip : mg "zip" = none
  range : mg "range" = none
  bool : mg "bool" = none
  any : mg "any" = none
  iter : mg "iter" = none
  property : mg "property" = none
section
variable {P : Program} {w : World} {K : PySem.W.Frag} {mg : Str → Option Value} {base : Heap}
theorem pe_tyn {X : Cx} {n : String} {p : Pos} (hg : Gl X (Str.ofString n)) (hm : X.mg (Str.ofString n) = none) (hv : bootBuiltins (Str.ofString n) = some (.type n)) (hn : Str.ofString n ≠ "__name__" := by decide) (hd : (Str.ofString n == ("__debug__" : Str)) = false := by decide) : PE X (.Name (Str.ofString n) p) (tC (.ty n)) := pe_bltn hg hm hv rfl hn hd
/-! is_integer, of ints -/
theorem sc_is_integer : FnScope ["value", "least"] ["value", "least"] (defScope s_is_integer) := ⟨rfl, rfl, rfl, by decide +kernel, rfl, by decide +kernel, by decide +kernel⟩
def spIsInt : Sp := fun vs H Q _ => ∃ i l : Int, vs = [.int i, .int l] ∧ Q (.bl (decide (l ≤ i))) H
theorem ok_is_integer (D : Dfn K mg "is_integer" s_is_integer ["value", "least"]) (z : Z mg) : Ok P w K mg base 1 "is_integer" ["value", "least"] spIsInt := D.ok fun f fd F => by
  refine F.ok sc_is_integer (fun vs H Q E h => ?_) (fun cdv A outer s H vs Q E hr h => ?_)
  · obtain ⟨i, l, rfl, _⟩ := h
    rfl
  · obtain ⟨i, l, rfl, q⟩ := h
    refine ⟨_, (pss_one (ps_ret (pe_and (pe_cmpR op_isTy (pe_callTy call_type1 (by rfl) z.type (by decide +kernel) (pa_cons (pv 0) pa_nil)) (pe_tyn (n := "int") (by rfl) z.int (by decide +kernel)) (nomark _)) (pe_one (pe_cmpR op_ge (pv 0) (pv 1) (nomark _)))))), ?_⟩
    exact ⟨_, rfl, _, _, rfl, .int i, _, _, rfl, rfl, _, rfl, _, rfl, _, rfl, _, _, rfl, rfl, q⟩

/-! is_thing -/
def thV : Option Int → V
  | none => .non
  | some n => .int n
def inThings (i : Int) : Option Int → Bool
  | none => true
  | some n => decide (i < n)
theorem sc_is_thing : FnScope ["value", "things"] ["value", "things"] (defScope s_is_thing) := ⟨rfl, rfl, rfl, by decide +kernel, rfl, by decide +kernel, by decide +kernel⟩
def spIsThing : Sp := fun vs H Q _ => ∃ (i : Int) (t : Option Int), vs = [.int i, thV t] ∧ Q (.bl (decide (0 ≤ i) && inThings i t)) H
theorem ok_is_thing (D : Dfn K mg "is_thing" s_is_thing ["value", "things"]) (O_is_integer : Ok P w K mg base 1 "is_integer" ["value", "least"] spIsInt) : Ok P w K mg base 2 "is_thing" ["value", "things"] spIsThing := D.ok fun f fd F => by
  refine F.ok sc_is_thing (fun vs H Q E h => ?_) (fun cdv A outer s H vs Q E hr h => ?_)
  · obtain ⟨i, t, rfl, _⟩ := h
    rfl
  · obtain ⟨i, t, rfl, q⟩ := h
    refine ⟨_, (pss_one (ps_ret (pe_and (pe_o O_is_integer hr (pa_cons (pv 0) (pa_cons pe_int pa_nil))) (pe_one (pe_or (pe_cmpR op_isN (pv 1) pe_non (nomark _)) (pe_one (pe_cmpR op_lt (pv 0) (pv 1) (nomark _)))))))), ?_⟩
    refine ⟨_, rfl, _, _, rfl, _, rfl, ?_⟩
    cases h0 : decide (0 ≤ i) with
    | false =>
      rw [h0] at q
      exact q
    | true =>
      rw [h0] at q
      cases t with
      | none => exact ⟨_, rfl, rfl, _, rfl, q⟩
      | some n => exact ⟨_, rfl, rfl, _, rfl, _, rfl, _, rfl, _, _, rfl, rfl, q⟩
/-! is_ascending, of a tuple of ints -/
def adj (ns : List Int) : List Bool := List.zipWith (fun x y => decide (x < y)) ns (ns.drop 1)
theorem adj_len (ns : List Int) : (adj ns).length = min (ns.map V.int).length ((ns.drop 1).map V.int).length := by
  unfold adj
  rw [List.length_zipWith, List.length_map, List.length_map]
theorem adj_get {ns : List Int} {i : Nat} {x y : V} (h1 : (ns.map V.int)[i]? = some x) (h2 : ((ns.drop 1).map V.int)[i]? = some y) : ∃ p q, x = .int p ∧ y = .int q ∧ (adj ns)[i]? = some (decide (p < q)) := by
  rw [List.getElem?_map] at h1 h2
  cases e1 : ns[i]? with
  | none => rw [e1] at h1; cases h1
  | some p =>
    cases e2 : (ns.drop 1)[i]? with
    | none => rw [e2] at h2; cases h2
    | some q =>
      rw [e1] at h1
      rw [e2] at h2
      refine ⟨p, q, (Option.some.inj h1).symm, (Option.some.inj h2).symm, ?_⟩
      unfold adj
      rw [List.getElem?_zipWith, e1, e2]
def asc : List Int → Bool
  | x :: y :: r => decide (x < y) && asc (y :: r)
  | _ => true
theorem adj_asc : ∀ ns : List Int, (adj ns).all id = asc ns
  | [] => rfl
  | [_] => rfl
  | x :: y :: r => by
    have ih := adj_asc (y :: r)
    show (decide (x < y) && (adj (y :: r)).all id) = (decide (x < y) && asc (y :: r))
    rw [ih]
theorem sc_is_ascending : FnScope ["values", "low", "high"] ["values"] (defScope s_is_ascending) := ⟨rfl, rfl, rfl, by decide +kernel, rfl, by decide +kernel, by decide +kernel⟩
def spIsAsc (K : PySem.W.Frag) : Sp := fun vs H Q _ => ∃ (t : Addr) (ns : List Int), vs = [.ref t] ∧ SqT K H t (ns.map V.int) ∧ ns.length ≤ 1000 ∧ ∀ H', Ex H H' → Q (.bl (asc ns)) H'
theorem ok_is_ascending (D : Dfn K mg "is_ascending" s_is_ascending ["values"]) (z : Z mg) : Ok P w K mg base 1 "is_ascending" ["values"] (spIsAsc K) := D.ok fun f fd F => by
  refine F.ok sc_is_ascending (fun vs H Q E h => ?_) (fun cdv A outer s H vs Q E hr h => ?_)
  · obtain ⟨i, t, rfl, _⟩ := h
    rfl
  · obtain ⟨t, ns, rfl, hT, hl, q⟩ := h
    refine ⟨_, (pss_one (ps_ret (pe_callB (cr_all rfl) (by rfl) z.all (by decide +kernel) (pa_cons (pe_lc (own := [("low", 1), ("high", 2)]) (g := gTup K 2 (gCons (gName 1) (gCons (gName 2) gNil))) rfl sc_is_ascending.nd (RZ.pi_zipA (by rfl) z.zip (pa_cons (pv 0) (pa_cons (pe_slice sl_tupA (pv 0) (po_some pe_int) po_none) pa_nil))) (blkOk_by (N := ["values", "low", "high"]) (own := [("low", 1), ("high", 2)]) (sc := defScope s_is_ascending) (by decide +kernel)) (fun _ _ _ _ _ => pg_tup rfl (pgs_cons (pg_name (i := 1) sc_is_ascending.nd rfl (Or.inl rfl)) (pgs_cons (pg_name (i := 2) sc_is_ascending.nd rfl (Or.inl rfl)) (pgs_nil)))) (fun _ _ _ _ _ => pts_nil) (fun _ _ _ _ _ => (pe_cmpR op_lt (pv 1) (pv 2) (nomark _)))) pa_nil)))), ?_⟩
    refine ⟨_, rfl, _, rfl, _, rfl, t, ns.map V.int, rfl, hT, ?_⟩
    have key : ∀ (t' : Addr) (H1 : Hp), Ex H H1 → SqT K H1 t' ((ns.drop 1).map V.int) → ∀ (R : V → Hp → Prop), (∀ Dl H2, H1 Dl = none → Ex H1 H2 → H2 Dl = some (.lst ((adj ns).map V.bl)) → R (.ref Dl) H2) → ∀ Dl, H1 Dl = none → ∃ W : Nat → Nat → Hp → Prop, (∃ m, W 0 m (upd H1 Dl (.lst []))) ∧ ∀ i m H, W i m H →
      ((RZ.ItzT K t t').stop i H ∧ R (.ref Dl) H) ∨ ((RZ.ItzT K t t').go i H ∧ ∃ Nx : Hp → Prop, (∀ H', Nx H' → ∃ m', m' < m ∧ W (i + 1) m' H') ∧ ∀ x H', (RZ.ItzT K t t').yld i H x H' → gTup K 2 (gCons (gName 1) (gCons (gName 2) gNil)) x (wipe (L2.start ["values", "low", "high"] [V.ref t]) [1, 2]) H' fun σ2 H2 => wipe σ2 [1, 2] = wipe (L2.start ["values", "low", "high"] [V.ref t]) [1, 2] ∧ tYes σ2 H2 fun b H3 =>
        if b = true then tOp (rI0 fun i j => .bl (decide (i < j))) (tVar 1) (tVar 2) σ2 H3 fun y H4 => ∃ acc, H4 Dl = some (.lst acc) ∧ acc.length < sizeLine ∧ Nx (upd H4 Dl (.lst (acc ++ [y]))) else Nx H3) := by
      intro t' H1 e1 hT' R hR Dl hD
      refine lc_it (walk_zipT (adj_len ns)) (Qd := fun H => R (.ref Dl) H) (fun i H' => Ex H1 H' ∧ H' Dl = some (.lst (((adj ns).take i).map V.bl))) ⟨Evl.Ex.new hD, by rw [upd_same]; rfl⟩ (fun i H' _ p => ⟨Evl.ex_t (e1.trans p.1) hT, Evl.ex_t p.1 hT'⟩) ?_ (fun H' p => hR Dl H' hD p.1 (by have := p.2; rw [List.take_length] at this; exact this))
      rintro i x H2 H3 hi ⟨x2, hL⟩ ⟨T, u, v, rfl, nT, rfl, hu, hv⟩
      obtain ⟨p, q2, rfl, rfl, ha⟩ := adj_get hu hv
      refine ⟨T, _, rfl, Evl.st_of upd_same, rfl, _, _, rfl, _, _, rfl, rfl, rfl, ?_⟩
      refine ⟨_, rfl, _, rfl, _, _, rfl, rfl, _, Eq.trans (upd_ne (ne_of_none hL nT)) hL, szl ?_, ?_, ?_⟩
      · rw [List.length_map, List.length_take]
        have := adj_len ns
        rw [List.length_map] at this
        omega
      · exact Evl.Ex.mut (x2.trans (Evl.Ex.new nT)) hD
      · rw [upd_same, take_snoc ha, List.map_append]
        rfl
    have fin : ∀ Dl H2, Ex H H2 → H2 Dl = some (.lst ((adj ns).map V.bl)) → rAll K [.ref Dl] H2 Q := fun Dl H2 e2 h2 => ⟨Dl, adj ns, rfl, Evl.sq_of h2, by
      rw [adj_asc]
      exact q H2 e2⟩
    have i0 : HT.sIx (ns.map V.int).length 0 (some 1) = min 1 (ns.map V.int).length := HT.sIx_nat _ 0 1
    have e1 : cutV (ns.map V.int) (some 1) none = (ns.drop 1).map V.int := by
      unfold cutV
      rw [i0, HT.sIx_none, List.map_drop]
      cases ns with
      | nil => rfl
      | cons x r =>
        rw [show min 1 (List.map V.int (x :: r)).length = 1 by rw [List.map_cons, List.length_cons]; omega]
        rw [← List.length_drop, List.take_length]
    refine ⟨fun hw => ?_, fun hw p hp => ?_⟩
    · refine ⟨t, t, ns.map V.int, ns.map V.int, rfl, .inr ⟨hT, hT, key t H (Evl.Ex.refl H) ?_ (fun v H2 => rAll K [v] H2 Q) fun Dl H2 _ e2 h2 => fin Dl H2 e2 h2⟩⟩
      have n0 : ns = [] := by
        have hw1 := hw.1
        rw [i0, List.length_map] at hw1
        cases ns with
        | nil => rfl
        | cons x r =>
          rw [List.length_cons] at hw1
          omega
      rw [n0] at hT ⊢
      exact hT
    · have hp2 : (upd H p (.tup (cutV (ns.map V.int) (some 1) none))) p = some (.tup ((ns.drop 1).map V.int)) := by rw [upd_same, e1]
      exact ⟨t, p, ns.map V.int, (ns.drop 1).map V.int, rfl, .inr ⟨Evl.ex_t (Evl.Ex.new hp) hT, Evl.st_of hp2, key p _ (Evl.Ex.new hp) (Evl.st_of hp2) (fun v H2 => rAll K [v] H2 Q) fun Dl H2 _ e2 h2 => fin Dl H2 ((Evl.Ex.new hp).trans e2) h2⟩⟩
/-! is_lot, of a tuple of ints -/
def isLot (ns : List Int) (t : Option Int) : Bool := (ns.all fun n => decide (0 ≤ n) && inThings n t) && asc ns
theorem sc_is_lot : FnScope ["value", "things", "thing"] ["value", "things"] (defScope s_is_lot) := ⟨rfl, rfl, rfl, by decide +kernel, rfl, by decide +kernel, by decide +kernel⟩
def spIsLot (K : PySem.W.Frag) : Sp := fun vs H Q _ => ∃ (a : Addr) (ns : List Int) (t : Option Int), vs = [.ref a, thV t] ∧ SqT K H a (ns.map V.int) ∧ ns.length ≤ 1000 ∧ ∀ H', Ex H H' → Q (.bl (isLot ns t)) H'
theorem ok_is_lot (D : Dfn K mg "is_lot" s_is_lot ["value", "things"]) (z : Z mg) (O_is_thing : Ok P w K mg base 2 "is_thing" ["value", "things"] spIsThing) (O_is_ascending : Ok P w K mg base 1 "is_ascending" ["values"] (spIsAsc K)) : Ok P w K mg base 3 "is_lot" ["value", "things"] (spIsLot K) := D.ok fun f fd F => by
  refine F.ok sc_is_lot (fun vs H Q E h => ?_) (fun cdv A outer s H vs Q E hr h => ?_)
  · obtain ⟨a, ns, t, rfl, _⟩ := h
    rfl
  · obtain ⟨a, ns, t, rfl, hT, hl, q⟩ := h
    refine ⟨_, (pss_cons (ps_if (pt_cmpR op_isNotTy (pe_callTy call_type1 (by rfl) z.type (by decide +kernel) (pa_cons (pv 0) pa_nil)) (pe_tyn (n := "tuple") (by rfl) z.tuple (by decide +kernel)) (nomark _)) (pss_one (ps_ret pe_bl)) pss_nil)
      (pss_one (ps_ret (pe_and (pe_callB (cr_all rfl) (by rfl) z.all (by decide +kernel) (pa_cons (pe_lc (own := [("thing", 2)]) (g := gName 2) rfl sc_is_lot.nd (pi_tup (pv 0)) (blkOk_by (N := ["value", "things", "thing"]) (own := [("thing", 2)]) (sc := defScope s_is_lot) (by decide +kernel)) (fun _ _ _ _ _ => pg_name (i := 2) sc_is_lot.nd rfl (Or.inl rfl)) (fun _ _ _ _ _ => pts_nil) (fun _ _ _ _ _ => (pe_o O_is_thing hr (pa_cons (pv 2) (pa_cons (pv 1) pa_nil))))) pa_nil)) (pe_one (pe_o O_is_ascending (hr.mono (by decide)) (pa_cons (pv 0) pa_nil))))))), ?_⟩
    refine ⟨_, rfl, _, _, rfl, .tup hT, _, _, rfl, rfl, _, rfl, ?_⟩
    refine ⟨_, rfl, a, rfl, ⟨_, hT⟩, fun Dl hD => ?_⟩
    refine lc_tup (K := K) (xs := ns.map V.int) (fun i H' => Ex H H' ∧ H' Dl = some (.lst (((ns.map fun n => decide (0 ≤ n) && inThings n t).take i).map V.bl))) ⟨Evl.Ex.new hD, by rw [upd_same]; rfl⟩ (fun i H' _ p => Evl.ex_t p.1 hT) ?_ ?_
    · rintro i x H1 hi ⟨e1, h1⟩
      obtain ⟨n, hn, rfl⟩ : ∃ n, ns[i]? = some n ∧ x = V.int n := by
        rw [List.getElem?_map] at hi
        cases e : ns[i]? with
        | none => rw [e] at hi; cases hi
        | some n => rw [e] at hi; exact ⟨n, rfl, (Option.some.inj hi).symm⟩
      refine ⟨rfl, ?_⟩
      refine ⟨_, rfl, _, rfl, n, t, rfl, _, h1, szl ?_, Evl.Ex.mut e1 hD, ?_⟩
      · rw [List.length_map, List.length_take, List.length_map]
        omega
      · rw [upd_same, take_snoc (x := decide (0 ≤ n) && inThings n t) (by rw [List.getElem?_map, hn]; rfl), List.map_append]
        rfl
    · rintro H1 ⟨e1, h1⟩
      have eL : (ns.map fun n => decide (0 ≤ n) && inThings n t).take (ns.map V.int).length = ns.map fun n => decide (0 ≤ n) && inThings n t := List.take_of_length_le (by simp)
      rw [eL] at h1
      refine ⟨Dl, _, rfl, Evl.sq_of h1, _, rfl, ?_⟩
      rw [List.all_map]
      have ea : (ns.all (id ∘ fun n => decide (0 ≤ n) && inThings n t)) = ns.all fun n => decide (0 ≤ n) && inThings n t := rfl
      rw [ea]
      cases hb : ns.all fun n => decide (0 ≤ n) && inThings n t with
      | false =>
        have ef : isLot ns t = false := by unfold isLot; rw [hb]; rfl
        rw [ef] at q
        exact q H1 e1
      | true =>
        have ef : isLot ns t = asc ns := by unfold isLot; rw [hb]; rfl
        rw [ef] at q
        exact ⟨_, rfl, a, ns, rfl, Evl.ex_t e1 hT, hl, fun H2 e2 => q H2 (e1.trans e2)⟩
end
end TW
set_option Elab.async false
set_option linter.all false
set_option maxRecDepth 100000
set_option maxHeartbeats 4000000
namespace TW
open PySem PySem.Spec PyProof.Rows L2
section
variable {P : Program} {w : World} {K : PySem.W.Frag} {mg : Str → Option Value} {base : Heap}
/-! _law_draws_of -/
def wl (a b c : Int) : HO := .lst [.int a, .int b, .int c]
theorem sc_law_draws_of : FnScope ["cell"] ["cell"] (defScope s__law_draws_of) := ⟨rfl, rfl, rfl, by decide +kernel, rfl, by decide +kernel, by decide +kernel⟩
def spDraws : Sp := fun vs H Q _ => ∃ c : Int, vs = [.int c] ∧ ∀ p, H p = none → ∀ a b : Int, 0 ≤ a → 0 ≤ b → b < 2 ^ 81 → Q (.ref p) (upd H p (wl a 0 b))
theorem ok_draws (D : Dfn K mg "_law_draws_of" s__law_draws_of ["cell"]) (z : Z mg) : Ok P w K mg base 1 "_law_draws_of" ["cell"] spDraws := D.ok fun f fd F => by
  refine F.ok sc_law_draws_of (fun vs H Q E h => ?_) (fun cdv A outer s H vs Q E hr h => ?_)
  · obtain ⟨c, rfl, _⟩ := h
    rfl
  · obtain ⟨c, rfl, q⟩ := h
    refine ⟨_, (pss_cons (ps_if (pt_cmpR op_ge (pv 0) (pe_op op_pow pe_int pe_int) (nomark _)) (pss_one (ps_ret (pe_lst (pa_cons (pe_op op_sub (pv 0) (pe_op op_pow pe_int pe_int)) (pa_cons pe_int (pa_cons (pe_op op_mod (pe_callTy call_int1 (by rfl) z.int (by decide +kernel) (pa_cons (pv 0) pa_nil)) pe_int) pa_nil)))))) pss_nil)
      (pss_one (ps_ret (pe_lst (pa_cons pe_int (pa_cons pe_int (pa_cons (pe_op op_mod (pe_callTy call_int1 (by rfl) z.int (by decide +kernel) (pa_cons (pv 0) pa_nil)) (pe_op op_add (pe_op op_pow pe_int pe_int) pe_int)) pa_nil))))))), ?_⟩
    have p18 : CPow 10 18 := ⟨by decide, by decide, by decide⟩
    have p24 : CPow 10 24 := ⟨by decide, by decide, by decide⟩
    refine ⟨_, rfl, _, _, rfl, rfl, p18, _, _, rfl, rfl, _, rfl, ?_⟩
    refine ite2 (fun hc => ?_) (fun hc => ?_)
    · have hc' : (10 : Int) ^ (18 : Int).toNat ≤ c := of_decide_eq_true hc
      refine ⟨_, rfl, _, _, rfl, rfl, p18, _, _, rfl, rfl, _, rfl, .inl ⟨_, rfl, _, _, rfl, rfl, (show (0 : Int) < 1000003 by decide), sz (by show 3 ≤ 100000; decide), fun p hp => ?_⟩⟩
      exact q p hp _ _ (by omega) (Int.emod_nonneg _ (by decide)) (Int.lt_trans (Int.emod_lt_of_pos _ (by decide)) (by decide))
    · refine ⟨_, rfl, .inl ⟨_, rfl, _, _, rfl, rfl, p24, _, _, rfl, rfl, _, _, rfl, rfl, (show (0 : Int) < 10 ^ Int.toNat 24 + 7 by decide), sz (by show 3 ≤ 100000; decide), fun p hp => ?_⟩⟩
      exact q p hp 0 _ (by decide) (Int.emod_nonneg _ (by decide)) (Int.lt_trans (Int.emod_lt_of_pos _ (by decide)) (by decide))
/-! _law_dip -/
theorem sc_law_dip : FnScope ["well", "upto", "drawn", "count", "churn"] ["well", "upto"] (defScope s__law_dip) := ⟨rfl, rfl, rfl, by decide +kernel, rfl, by decide +kernel, by decide +kernel⟩
def spDip : Sp := fun vs H Q _ => ∃ (p : Addr) (n a b c : Int), vs = [.ref p, .int n] ∧ H p = some (wl a b c) ∧ 0 < n ∧ n < 2 ^ 200 ∧ 0 ≤ a ∧ 0 ≤ b ∧ b < 2 ^ 60 ∧ 0 ≤ c ∧ c < 2 ^ 81 ∧
  ∀ r a' b' : Int, 0 ≤ r → r < n → 0 ≤ a' → b ≤ b' → b' ≤ b + 1 → Q (.int r) (upd H p (wl a' b' c))
theorem nab {x : Int} {k : Nat} (h0 : 0 ≤ x) (h : x < 2 ^ k) : x.natAbs < 2 ^ k := by
  have e : ((2 ^ k : Nat) : Int) = (2 : Int) ^ k := by simp
  omega
theorem ok_dip (D : Dfn K mg "_law_dip" s__law_dip ["well", "upto"]) (z : Z mg) : Ok P w K mg base 1 "_law_dip" ["well", "upto"] spDip := D.ok fun f fd F => by
  refine F.ok sc_law_dip (fun vs H Q E h => ?_) (fun cdv A outer s H vs Q E hr h => ?_)
  · obtain ⟨p, n, a, b, c, rfl, _⟩ := h
    rfl
  · obtain ⟨p, n, a, b, c, rfl, hp, n0, n1, a0, b0, b1, c0, c1, q⟩ := h
    refine ⟨_, (pss_cons (ps_if (pt_cmpR op_gt (pe_ix ix_list (pv 0) pe_int (fun _ _ => rfl)) pe_int (nomark _)) (pss_cons (ps_set (i := 2) sc_law_dip.nd rfl (Or.inl rfl) (pe_op op_mod (pe_callTy call_int1 (by rfl) z.int (by decide +kernel) (pa_cons (pe_ix ix_list (pv 0) pe_int (fun _ _ => rfl)) pa_nil)) (pv 1)))
      (pss_cons (ps_asg (pe_op op_fdivW (pe_ix ix_list (pv 0) pe_int (fun _ _ => rfl)) (pv 1)) (pg_sub (pv 0) pe_int set_list))
      (pss_one (ps_ret (pv 2))))) pss_nil)
      (pss_cons (ps_asg (pe_op op_add (pe_ix ix_list (pv 0) pe_int (fun _ _ => rfl)) pe_int) (pg_sub (pv 0) pe_int set_list))
      (pss_cons (ps_set (i := 3) sc_law_dip.nd rfl (Or.inl rfl) (pe_ix ix_list (pv 0) pe_int (fun _ _ => rfl)))
      (pss_cons (ps_set (i := 4) sc_law_dip.nd rfl (Or.inl rfl) (pe_op op_add (pe_op op_mul (pe_op op_add (pe_ix ix_list (pv 0) pe_int (fun _ _ => rfl)) pe_int) (pe_op op_add pe_int (pe_op op_mul pe_int (pv 3)))) (pe_op op_mul (pe_op op_mul pe_int (pv 3)) (pv 3))))
      (pss_cons (ps_set (i := 4) sc_law_dip.nd rfl (Or.inl rfl) (pe_op op_mul (pe_op op_mod (pe_callTy call_int1 (by rfl) z.int (by decide +kernel) (pa_cons (pe_op op_mulW (pv 4) (pv 4)) pa_nil)) pe_int) pe_int))
      (pss_one (ps_ret (pe_op op_mod (pe_callTy call_int1 (by rfl) z.int (by decide +kernel) (pa_cons (pe_op op_fdiv (pe_op op_mod (pe_callTy call_int1 (by rfl) z.int (by decide +kernel) (pa_cons (pv 4) pa_nil)) pe_int) pe_int) pa_nil)) (pv 1))))))))), ?_⟩
    have n9 : CDivW a n := wide_div (b := 200) n0 (nab (Int.le_of_lt n0) n1) (by decide) (by decide)
    refine ⟨_, rfl, p, _, _, _, rfl, rfl, Evl.sq_of hp, rfl, _, _, rfl, rfl, _, rfl, ?_⟩
    refine ite2 (fun hc => ?_) (fun hc => ?_)
    · refine ⟨_, rfl, p, _, _, _, rfl, rfl, Evl.sq_of hp, rfl, .inl ⟨_, rfl, _, rfl, _, _, rfl, rfl, n0, ?_⟩⟩
      refine ⟨_, rfl, p, _, _, _, rfl, rfl, Evl.sq_of hp, rfl, _, rfl, _, _, rfl, rfl, n9, _, rfl, p, _, _, 0, rfl, rfl, hp, rfl, _, rfl, ?_⟩
      exact q _ _ b (Int.emod_nonneg _ (by omega)) (Int.emod_lt_of_pos _ n0) (Int.ediv_nonneg a0 (Int.le_of_lt n0)) (Int.le_refl _) (by omega)
    · refine ⟨_, rfl, p, _, _, _, rfl, rfl, Evl.sq_of hp, rfl, _, _, rfl, rfl, _, rfl, p, _, _, 1, rfl, rfl, hp, rfl, ?_⟩
      refine ⟨_, rfl, p, _, _, _, rfl, rfl, Evl.sq_of upd_same, rfl, ?_⟩
      refine ⟨_, rfl, p, _, _, _, rfl, rfl, Evl.sq_of upd_same, rfl, _, _, rfl, rfl, _, rfl, _, _, rfl, rfl, ?_⟩
      have m1 : CMul 2 (b + 1) := .inl ⟨by decide, by decide⟩
      have m2 : CMul (c + 1) (48611 + 2 * (b + 1)) := .inr ⟨by omega, by omega⟩
      have m3 : CMul 1299709 (b + 1) := .inl ⟨by decide, by decide⟩
      have m4 : CMul (1299709 * (b + 1)) (b + 1) := .inr ⟨by omega, by omega⟩
      have q1 : ((c + 1) * (48611 + 2 * (b + 1))).natAbs < 2 ^ (82 + 64) := wide_lt (nab (by omega) (by omega)) (nab (by omega) (by omega))
      have q2 : (1299709 * (b + 1) * (b + 1)).natAbs < 2 ^ (100 + 64) := wide_lt (nab (by omega) (by omega)) (nab (by omega) (by omega))
      have q3 : ((c + 1) * (48611 + 2 * (b + 1)) + 1299709 * (b + 1) * (b + 1)).natAbs < 2 ^ 200 := by
        have e1 : (2 : Nat) ^ (82 + 64) = 89202980794122492566142873090593446023921664 := by decide
        have e2 : (2 : Nat) ^ (100 + 64) = 23384026197294446691258957323460528314494920687616 := by decide
        have e3 : (2 : Nat) ^ 200 = 1606938044258990275541962092341162602522202993782792835301376 := by decide
        rw [e1] at q1
        rw [e2] at q2
        rw [e3]
        omega
      have m5 : CMulW ((c + 1) * (48611 + 2 * (b + 1)) + 1299709 * (b + 1) * (b + 1)) ((c + 1) * (48611 + 2 * (b + 1)) + 1299709 * (b + 1) * (b + 1)) := wide_mul q3 q3 (by decide) (by decide) (by decide)
      refine ⟨m1, _, _, rfl, rfl, _, _, rfl, rfl, m2, _, rfl, _, _, rfl, rfl, m3, _, rfl, _, _, rfl, rfl, m4, _, _, rfl, rfl, ?_⟩
      refine ⟨_, rfl, _, rfl, _, _, rfl, rfl, m5, .inl ⟨_, rfl, _, _, rfl, rfl, (show (0 : Int) < 2305843009213693951 by decide), _, _, rfl, rfl, .inr ⟨by decide, by decide⟩, ?_⟩⟩
      refine ⟨_, rfl, .inl ⟨_, rfl, _, _, rfl, rfl, (show (0 : Int) < 1000000000000000003 by decide), _, _, rfl, rfl, ⟨by decide, by decide⟩, .inl ⟨_, rfl, _, rfl, _, _, rfl, rfl, n0, ?_⟩⟩⟩

      exact q _ a (b + 1) (Int.emod_nonneg _ (by omega)) (Int.emod_lt_of_pos _ n0) a0 (by omega) (Int.le_refl _)
end
end TW
set_option Elab.async false
set_option linter.all false
set_option maxRecDepth 100000
set_option maxHeartbeats 4000000
namespace TW
open PySem PySem.Spec PyProof.Rows L2
section
variable {P : Program} {w : World} {K : PySem.W.Frag} {mg : Str → Option Value} {base : Heap}
/-! _law_same, of equal data -/
def isFlat : V → Bool
  | .non => true
  | .bl _ => true
  | .int _ => true
  | .str _ => true
  | _ => false
def Rep : Nat → Hp → V → V → Prop
  | 0, _, x, y => x = y ∧ isFlat x = true
  | n + 1, H, x, y => (x = y ∧ isFlat x = true) ∨ ∃ (a b : Addr) (xs ys : List V), x = .ref a ∧ y = .ref b ∧ ((H a = some (.lst xs) ∧ H b = some (.lst ys)) ∨ (H a = some (.tup xs) ∧ H b = some (.tup ys))) ∧
      xs.length = ys.length ∧ ys.length ≤ 10000 ∧ ∀ (i : Nat) x y, xs[i]? = some x → ys[i]? = some y → Rep n H x y
theorem Rep.mono : ∀ {n : Nat} {H H' : Hp} {x y : V}, Ex H H' → Rep n H x y → Rep n H' x y
  | 0, _, _, _, _, _, h => h
  | n + 1, H, H', x, y, e, h => by
    rcases h with h | ⟨a, b, xs, ys, h1, h2, h3, h4, h5, h6⟩
    · exact .inl h
    · refine .inr ⟨a, b, xs, ys, h1, h2, ?_, h4, h5, fun i x y hx hy => Rep.mono e (h6 i x y hx hy)⟩
      rcases h3 with ⟨p, q⟩ | ⟨p, q⟩
      · exact .inl ⟨e _ _ p, e _ _ q⟩
      · exact .inr ⟨e _ _ p, e _ _ q⟩
theorem Rep.flat {n : Nat} {H : Hp} {x : V} (h : isFlat x = true) : Rep n H x x := by
  cases n with
  | zero => exact ⟨rfl, h⟩
  | succ n => exact .inl ⟨rfl, h⟩
theorem sc_law_same : FnScope ["given", "due", "k"] ["given", "due"] (defScope s__law_same) := ⟨rfl, rfl, rfl, by decide +kernel, rfl, by decide +kernel, by decide +kernel⟩
def spSame (n : Nat) : Sp := fun vs H Q _ => ∃ x y : V, vs = [x, y] ∧ Rep n H x y ∧ ∀ H', Ex H H' → Q (.bl true) H'
theorem kit_ll : PySem.W.kitOne K (.type "list") (.type "list") = some true := kit_ty (by decide +kernel)
theorem kit_lt : PySem.W.kitOne K (.type "list") (.type "tuple") = some false := kit_ty (by decide +kernel)
theorem kit_tl : PySem.W.kitOne K (.type "tuple") (.type "list") = some false := kit_ty (by decide +kernel)
theorem kit_tt : PySem.W.kitOne K (.type "tuple") (.type "tuple") = some true := kit_ty (by decide +kernel)
theorem kit_any2 {a : String} {b1 b2 : Bool} (h1 : PySem.W.kitOne K (.type a) (.type "list") = some b1) (h2 : PySem.W.kitOne K (.type a) (.type "tuple") = some b2) : PySem.W.kitAny K (.type a) [.type "list", .type "tuple"] = some (b1 || b2) := by
  unfold PySem.W.kitAny
  rw [h1]
  cases b1 with
  | true => rfl
  | false =>
    unfold PySem.W.kitAny
    rw [h2]
    cases b2 <;> rfl
theorem ok_same_body {f : Addr} {fd : FuncData} (F : Fun K "_law_same" "_law_same" s__law_same f fd) (z : Z mg) (n : Nat) (O_law_same : Ok P w K mg base n "_law_same" ["given", "due"] (match n with | 0 => fun _ _ _ _ => False | m + 1 => spSame m)) : FnOk P w K mg base CX0 (n + 1) f fd ["given", "due"] (spSame n) := by
  refine F.ok sc_law_same (fun vs H Q E h => ?_) (fun cdv A outer s H vs Q E hr h => ?_)
  · obtain ⟨x, y, rfl, _⟩ := h
    rfl
  · obtain ⟨x, y, rfl, hR, q⟩ := h
    refine ⟨_, (pss_cons (ps_if (pt_val (pe_callB call_isiT (by rfl) z.isinstance (by decide +kernel) (pa_cons (pv 1) (pa_cons (pe_tup (pa_cons (pe_tyn (n := "list") (by rfl) z.list (by decide +kernel)) (pa_cons (pe_tyn (n := "tuple") (by rfl) z.tuple (by decide +kernel)) pa_nil))) pa_nil))))
      (pss_cons (ps_if (PW.pt (pw_or (pt_cmpR op_ne (pe_callB call_isi (by rfl) z.isinstance (by decide +kernel) (pa_cons (pv 0) (pa_cons (pe_tyn (n := "list") (by rfl) z.list (by decide +kernel)) pa_nil))) (pe_callB call_isi (by rfl) z.isinstance (by decide +kernel) (pa_cons (pv 1) (pa_cons (pe_tyn (n := "list") (by rfl) z.list (by decide +kernel)) pa_nil))) (nomark _))
          (pw_or1 (pt_cmpR op_ne (pe_callB call_isi (by rfl) z.isinstance (by decide +kernel) (pa_cons (pv 0) (pa_cons (pe_tyn (n := "tuple") (by rfl) z.tuple (by decide +kernel)) pa_nil))) (pe_callB call_isi (by rfl) z.isinstance (by decide +kernel) (pa_cons (pv 1) (pa_cons (pe_tyn (n := "tuple") (by rfl) z.tuple (by decide +kernel)) pa_nil))) (nomark _))))) (pss_one (ps_ret pe_bl)) pss_nil)
      (pss_cons (ps_if (pt_cmpR op_ne (pe_callB call_len_seq (by rfl) z.len PySem.boot_len (pa_cons (pv 0) pa_nil)) (pe_callB call_len_seq (by rfl) z.len PySem.boot_len (pa_cons (pv 1) pa_nil)) (nomark _)) (pss_one (ps_ret pe_bl)) pss_nil)
      (pss_one (ps_ret (pe_callB (cr_all rfl) (by rfl) z.all (by decide +kernel) (pa_cons (pe_lc (own := [("k", 2)]) (g := gName 2) rfl sc_law_same.nd (pi_range1 (by rfl) z.range (pa_cons (pe_callB call_len_seq (by rfl) z.len PySem.boot_len (pa_cons (pv 1) pa_nil)) pa_nil)) (blkOk_by (N := ["given", "due", "k"]) (own := [("k", 2)]) (sc := defScope s__law_same) (by decide +kernel)) (fun _ _ _ _ _ => pg_name (i := 2) sc_law_same.nd rfl (Or.inl rfl)) (fun _ _ _ _ _ => pts_nil) (fun _ _ _ _ _ => (pe_o O_law_same hr (pa_cons (pe_ix (ix_any (K := K)) (pv 0) (pv 2) (fun _ _ => rfl)) (pa_cons (pe_ix (ix_any (K := K)) (pv 1) (pv 2) (fun _ _ => rfl)) pa_nil))))) pa_nil)))))) pss_nil)
      (pss_cons (ps_if (PW.pt (pw_or (pt_val (pe_callB call_isiT (by rfl) z.isinstance (by decide +kernel) (pa_cons (pv 0) (pa_cons (pe_tup (pa_cons (pe_tyn (n := "list") (by rfl) z.list (by decide +kernel)) (pa_cons (pe_tyn (n := "tuple") (by rfl) z.tuple (by decide +kernel)) pa_nil))) pa_nil))))
          (pw_or1 (pt_cmpR op_ne (pe_callB call_isi (by rfl) z.isinstance (by decide +kernel) (pa_cons (pv 0) (pa_cons (pe_tyn (n := "bool") (by rfl) z.bool (by decide +kernel)) pa_nil))) (pe_callB call_isi (by rfl) z.isinstance (by decide +kernel) (pa_cons (pv 1) (pa_cons (pe_tyn (n := "bool") (by rfl) z.bool (by decide +kernel)) pa_nil))) (nomark _))))) (pss_one (ps_ret pe_bl)) pss_nil)
      (pss_cons (ps_if (pt_cmpR op_isN (pv 1) pe_non (nomark _)) (pss_one (ps_ret (pe_cmpR op_isN (pv 0) pe_non (nomark _)))) pss_nil)
      (pss_one (ps_ret (pe_cmpR op_eq (pv 0) (pv 1) (nomark _))))))), ?_⟩
    have hcase : (x = y ∧ isFlat x = true) ∨ ∃ m, n = m + 1 ∧ ∃ (a b : Addr) (xs ys : List V), x = .ref a ∧ y = .ref b ∧ ((H a = some (.lst xs) ∧ H b = some (.lst ys)) ∨ (H a = some (.tup xs) ∧ H b = some (.tup ys))) ∧
      xs.length = ys.length ∧ ys.length ≤ 10000 ∧ ∀ (i : Nat) x y, xs[i]? = some x → ys[i]? = some y → Rep m H x y := by
      cases n with
      | zero => exact .inl hR
      | succ m =>
        rcases hR with h | h
        · exact .inl h
        · exact .inr ⟨m, rfl, h⟩
    have s2 : [V.ty "list", V.ty "tuple"].length ≤ sizeLine := sz (by show 2 ≤ 100000; decide)
    have pr : Paired ClsV [V.ty "list", V.ty "tuple"] [.type "list", .type "tuple"] := .cons (.ty _) (.cons (.ty _) .nil)
    rcases hcase with ⟨rfl, hf⟩ | ⟨m, rfl, a, b, xs, ys, rfl, rfl, h3, h4, h5, h6⟩
    · obtain ⟨T, kb, ty, kl, kt, hb⟩ : ∃ T kb, (∀ H', TyX K H' x (.type T)) ∧ PySem.W.kitOne K (.type T) (.type "list") = some false ∧ PySem.W.kitOne K (.type T) (.type "tuple") = some false ∧ PySem.W.kitOne K (.type T) (.type "bool") = some kb := by
        cases x with
        | non => exact ⟨"NoneType", false, fun _ => .base .non, kit_ty (by decide +kernel), kit_ty (by decide +kernel), kit_ty (by decide +kernel)⟩
        | bl v => exact ⟨"bool", true, fun _ => .base (.bl v), kit_ty (by decide +kernel), kit_ty (by decide +kernel), kit_ty (by decide +kernel)⟩
        | int v => exact ⟨"int", false, fun _ => .base (.int v), kit_ty (by decide +kernel), kit_ty (by decide +kernel), kit_ty (by decide +kernel)⟩
        | str v => exact ⟨"str", false, fun _ => .base (.str v), kit_ty (by decide +kernel), kit_ty (by decide +kernel), kit_ty (by decide +kernel)⟩
        | byt v => exact absurd (show false = true from hf) Bool.false_ne_true
        | flt v => exact absurd (show false = true from hf) Bool.false_ne_true
        | ref v => exact absurd (show false = true from hf) Bool.false_ne_true
        | ty v => exact absurd (show false = true from hf) Bool.false_ne_true
      refine ⟨_, rfl, s2, fun tp htp => ⟨x, tp, _, _, _, false, rfl, upd_same, pr, ty _, kit_any2 kl kt, _, rfl, ?_⟩⟩
      refine ⟨_, rfl, s2, fun tp2 htp2 => ⟨x, tp2, _, _, _, false, rfl, upd_same, pr, ty _, kit_any2 kl kt, _, rfl, ?_⟩⟩
      have ex2 : Ex H (upd (upd H tp (.tup [V.ty "list", V.ty "tuple"])) tp2 (.tup [V.ty "list", V.ty "tuple"])) := (Evl.Ex.new htp).trans (Evl.Ex.new htp2)
      refine ⟨_, rfl, x, _, _, _, kb, rfl, .ty _, ty _, hb, _, rfl, x, _, _, _, kb, rfl, .ty _, ty _, hb, rfl, _, rfl, ?_⟩
      rw [decide_eq_true (rfl : V.bl kb = V.bl kb)]
      refine ⟨_, rfl, rfl, _, rfl, ?_⟩
      refine ite2 (fun hn => ?_) (fun hn => ?_)
      · refine ⟨_, rfl, rfl, ?_⟩
        rw [hn]
        exact q _ ex2
      · refine ⟨_, rfl, _, rfl, ?_, ?_⟩
        · cases x with
          | non => rfl
          | bl v => rfl
          | int v => rfl
          | str v => rfl
          | byt v => exact absurd (show false = true from hf) Bool.false_ne_true
          | flt v => exact absurd (show false = true from hf) Bool.false_ne_true
          | ref v => exact absurd (show false = true from hf) Bool.false_ne_true
          | ty v => exact absurd (show false = true from hf) Bool.false_ne_true
        · rw [decide_eq_true (rfl : x = x)]
          exact q _ ex2
    · obtain ⟨T, kb, tb, tya, tyb, kl, kt, hlen, hia, hib⟩ : ∃ T kb tb, (∀ H', Ex H H' → TyX K H' (.ref a) (.type T)) ∧ (∀ H', Ex H H' → TyX K H' (.ref b) (.type T)) ∧ PySem.W.kitOne K (.type T) (.type "list") = some kb ∧ PySem.W.kitOne K (.type T) (.type "tuple") = some tb ∧ (kb || tb) = true ∧
          (∀ H', Ex H H' → SqL K H' a xs ∨ SqT K H' a xs) ∧ (∀ H', Ex H H' → SqL K H' b ys ∨ SqT K H' b ys) := by
        rcases h3 with ⟨ha, hb⟩ | ⟨ha, hb⟩
        · exact ⟨"list", true, false, fun H' e => .base (.lst (e _ _ ha)), fun H' e => .base (.lst (e _ _ hb)), kit_ll, kit_lt, rfl, fun H' e => .inl (Evl.sq_of (e _ _ ha)), fun H' e => .inl (Evl.sq_of (e _ _ hb))⟩
        · exact ⟨"tuple", false, true, fun H' e => .base (.tup (e _ _ ha)), fun H' e => .base (.tup (e _ _ hb)), kit_tl, kit_tt, rfl, fun H' e => .inr (Evl.st_of (e _ _ ha)), fun H' e => .inr (Evl.st_of (e _ _ hb))⟩
      refine ⟨_, rfl, s2, fun tp htp => ⟨_, tp, _, _, _, _, rfl, upd_same, pr, tyb _ (Evl.Ex.new htp), kit_any2 kl kt, _, rfl, ?_⟩⟩
      rw [hlen]
      have e1 : Ex H (upd H tp (.tup [V.ty "list", V.ty "tuple"])) := Evl.Ex.new htp
      refine ⟨_, rfl, _, _, _, _, kb, rfl, .ty _, tya _ e1, kl, _, rfl, _, _, _, _, kb, rfl, .ty _, tyb _ e1, kl, rfl, _, rfl, ?_⟩
      rw [decide_eq_true (rfl : V.bl kb = V.bl kb)]
      refine ⟨_, rfl, _, _, _, _, tb, rfl, .ty _, tya _ e1, kt, _, rfl, _, _, _, _, tb, rfl, .ty _, tyb _ e1, kt, rfl, _, rfl, ?_⟩
      rw [decide_eq_true (rfl : V.bl tb = V.bl tb)]
      refine ⟨_, rfl, a, xs, rfl, hia _ e1, _, rfl, b, ys, rfl, hib _ e1, rfl, _, rfl, ?_⟩
      rw [h4, decide_eq_true (rfl : V.int ((ys.length : Nat) : Int) = V.int ((ys.length : Nat) : Int))]
      refine ⟨_, rfl, b, ys, rfl, hib _ e1, ((ys.length : Nat) : Int), rfl, by omega, by omega, fun Dl hD => ?_⟩
      have en : ((ys.length : Nat) : Int).toNat = ys.length := by omega
      rw [en]
      refine lc_range (lo := 0) (n := ys.length) (fun i H' => Ex H H' ∧ H' Dl = some (.lst ((List.replicate i true).map V.bl))) ⟨e1.trans (Evl.Ex.new hD), by rw [upd_same]; rfl⟩ ?_ ?_
      · rintro i H2 hi ⟨e2, hL⟩
        have nD : H Dl = none := Evl.fresh_back e1 hD
        have i1 : i < xs.length := by omega
        have gx : xs[i]? = some xs[i] := List.getElem?_eq_getElem i1
        have gy : ys[i]? = some ys[i] := List.getElem?_eq_getElem hi
        have ez : (0 : Int) + (i : Int) = (i : Int) := Int.zero_add _
        rw [ez]
        have tail : ∀ H3, Ex H2 H3 → ∃ acc, H3 Dl = some (.lst acc) ∧ acc.length < sizeLine ∧ (Ex H (upd H3 Dl (.lst (acc ++ [V.bl true]))) ∧ (upd H3 Dl (.lst (acc ++ [V.bl true]))) Dl = some (.lst ((List.replicate (i + 1) true).map V.bl))) := fun H3 e3 => by
          refine ⟨_, e3 _ _ hL, szl ?_, Evl.Ex.mut (e2.trans e3) nD, ?_⟩
          · rw [List.length_map, List.length_replicate]
            omega
          · rw [upd_same, List.replicate_succ', List.map_append]
            rfl
        refine ⟨rfl, _, rfl, _, rfl, ?_⟩
        have step2 : ∀ x', x' = xs[i] → ∀ y', y' = ys[i] → spSame m [x', y'] H2 (fun y H4 => ∃ acc, H4 Dl = some (.lst acc) ∧ acc.length < sizeLine ∧ (Ex H (upd H4 Dl (.lst (acc ++ [y]))) ∧ (upd H4 Dl (.lst (acc ++ [y]))) Dl = some (.lst ((List.replicate (i + 1) true).map V.bl)))) E0 := fun x' ex y' ey =>
          ⟨x', y', rfl, Rep.mono e2 (ex ▸ ey ▸ h6 i _ _ gx gy), fun H3 e3 => tail H3 e3⟩
        have ixy : ∀ (R : V → Hp → Prop), R ys[i] H2 → rIxA K (.ref b) (.int (i : Int)) H2 R := fun R hR2 => by
          rcases hib H2 e2 with hb | hb
          · exact .inl ⟨b, ys, _, _, rfl, rfl, hb, atI_nat gy, hR2⟩
          · exact .inr ⟨b, ys, _, _, rfl, rfl, hb, atI_nat gy, hR2⟩
        have ixx : ∀ (R : V → Hp → Prop), R xs[i] H2 → rIxA K (.ref a) (.int (i : Int)) H2 R := fun R hR2 => by
          rcases hia H2 e2 with hb | hb
          · exact .inl ⟨a, xs, _, _, rfl, rfl, hb, atI_nat gx, hR2⟩
          · exact .inr ⟨a, xs, _, _, rfl, rfl, hb, atI_nat gx, hR2⟩
        refine ixx _ ?_
        refine ⟨_, rfl, _, rfl, ?_⟩
        refine ixy _ ?_
        exact step2 _ rfl _ rfl
      · rintro H2 ⟨e2, hL⟩
        refine ⟨Dl, _, rfl, Evl.sq_of hL, ?_⟩
        have ea : (List.replicate ys.length true).all id = true := by simp
        rw [ea]
        exact q H2 e2
theorem FnOk.never {CX : CXT} {f : Addr} {fd : FuncData} {ps : List Str} : FnOk P w K mg base CX 0 f fd ps (fun _ _ _ _ => False) := ⟨fun _ _ _ _ h => h.elim, fun _ _ _ _ _ _ _ _ _ _ _ _ _ h => h.elim⟩
theorem ok_same (D : Dfn K mg "_law_same" s__law_same ["given", "due"]) (z : Z mg) : ∀ n, Ok P w K mg base (n + 1) "_law_same" ["given", "due"] (spSame n) := by
  obtain ⟨f, fd, F, g, b⟩ := D
  have body := fun n h => ok_same_body (P := P) (w := w) (base := base) F z n ⟨f, fd, h, g, F.kp, b⟩
  have all : ∀ n, FnOk P w K mg base CX0 (n + 1) f fd ["given", "due"] (spSame n) := by
    intro n
    induction n with
    | zero => exact body 0 FnOk.never
    | succ m ih => exact body (m + 1) ih
  exact fun n => ⟨f, fd, all n, g, F.kp, b⟩
end
end TW
set_option Elab.async false
set_option linter.all false
set_option maxRecDepth 100000
set_option maxHeartbeats 4000000
namespace TW
open PySem PySem.Spec PyProof.Rows L2
/-! ascending lists -/
def Up (ns : List Int) : Prop := ns.Pairwise (· < ·)
theorem asc_up : ∀ {ns : List Int}, asc ns = true → Up ns
  | [], _ => List.Pairwise.nil
  | [x], _ => List.pairwise_singleton _ _
  | x :: y :: r, h => by
    have h' : (decide (x < y) && asc (y :: r)) = true := h
    rw [Bool.and_eq_true] at h'
    have ih := asc_up h'.2
    have hxy : x < y := of_decide_eq_true h'.1
    refine List.pairwise_cons.mpr ⟨fun z hz => ?_, ih⟩
    rcases List.mem_cons.mp hz with e | e
    · omega
    · have := (List.pairwise_cons.mp ih).1 z e
      omega
theorem up_asc : ∀ {ns : List Int}, Up ns → asc ns = true
  | [], _ => rfl
  | [x], _ => rfl
  | x :: y :: r, h => by
    obtain ⟨h1, h2⟩ := List.pairwise_cons.mp h
    show (decide (x < y) && asc (y :: r)) = true
    rw [up_asc h2, decide_eq_true (h1 y List.mem_cons_self)]
    rfl
theorem up_nodup {ns : List Int} (h : Up ns) : ns.Nodup := h.imp fun {a b} (c : a < b) => by
  intro e
  omega
theorem up_ext : ∀ {xs ys : List Int}, Up xs → Up ys → (∀ z, z ∈ xs ↔ z ∈ ys) → xs = ys
  | [], [], _, _, _ => rfl
  | [], y :: r, _, _, h => absurd ((h y).mpr List.mem_cons_self) List.not_mem_nil
  | x :: r, [], _, _, h => absurd ((h x).mp List.mem_cons_self) List.not_mem_nil
  | x :: r, y :: s, hx, hy, h => by
    obtain ⟨a1, a2⟩ := List.pairwise_cons.mp hx
    obtain ⟨b1, b2⟩ := List.pairwise_cons.mp hy
    have e : x = y := by
      rcases List.mem_cons.mp ((h x).mp List.mem_cons_self) with q | q
      · exact q
      · rcases List.mem_cons.mp ((h y).mpr List.mem_cons_self) with p | p
        · exact p.symm
        · have c1 := a1 y p
          have c2 := b1 x q
          omega
    subst e
    rw [up_ext a2 b2 fun z => ⟨fun hz => ?_, fun hz => ?_⟩]
    · rcases List.mem_cons.mp ((h z).mp (List.mem_cons_of_mem _ hz)) with q | q
      · have := a1 z hz
        omega
      · exact q
    · rcases List.mem_cons.mp ((h z).mpr (List.mem_cons_of_mem _ hz)) with q | q
      · have := b1 z hz
        omega
      · exact q
theorem up_of_le {ns : List Int} (h : ns.Pairwise (· ≤ ·)) (d : ns.Nodup) : Up ns := by
  refine List.Pairwise.imp₂ (fun a b (x : a ≤ b) (y : a ≠ b) => ?_) h d
  show a < b
  omega
def lotOk (ns : List Int) : Prop := Up ns ∧ (∀ z ∈ ns, 0 ≤ z) ∧ ns.length ≤ 1000
theorem isLot_of {ns : List Int} (h : lotOk ns) : isLot ns none = true := by
  unfold isLot
  rw [up_asc h.1, Bool.and_true, List.all_eq_true]
  intro z hz
  rw [decide_eq_true (h.2.1 z hz)]
  rfl
theorem inV_int (x : Int) (ns : List Int) : inV (.int x) (ns.map V.int) = decide (x ∈ ns) := by
  unfold inV
  rw [List.any_map]
  rw [Bool.eq_iff_iff, List.any_eq_true, decide_eq_true_eq]
  constructor
  · rintro ⟨y, hy, e⟩
    have e' : (y == x) = true := e
    rw [← eq_of_beq e']
    exact hy
  · intro h
    exact ⟨x, h, (show (x == x) = true from beq_self_eq_true x)⟩
theorem flat_ints (ns : List Int) : (ns.map V.int).all flatV = true := by
  rw [List.all_map]
  exact List.all_eq_true.mpr fun _ _ => rfl
theorem map_get {ns : List Int} {i : Nat} {x : V} (hi : (ns.map V.int)[i]? = some x) : ∃ n, ns[i]? = some n ∧ x = V.int n := by
  rw [List.getElem?_map] at hi
  cases e : ns[i]? with
  | none => rw [e] at hi; cases hi
  | some n => rw [e] at hi; exact ⟨n, rfl, (Option.some.inj hi).symm⟩
/-- the things that two of three lots have -/
def IsMid (a b c m : List Int) : Prop := Up m ∧ ∀ x, x ∈ m ↔ (x ∈ a ∧ (x ∈ b ∨ x ∈ c)) ∨ (x ∈ b ∧ x ∈ c)
theorem mid_of {a b c r : List Int} (ua : Up a) (ub : Up b) (hp : r.Perm (a.filter (fun x => decide (x ∈ b) || decide (x ∈ c)) ++ b.filter (fun x => decide (x ∈ c) && !decide (x ∈ a)))) (hs : r.Pairwise (· ≤ ·)) : IsMid a b c r := by
  have nd : (a.filter (fun x => decide (x ∈ b) || decide (x ∈ c)) ++ b.filter (fun x => decide (x ∈ c) && !decide (x ∈ a))).Nodup := by
    refine List.nodup_append.mpr ⟨(up_nodup ua).filter _, (up_nodup ub).filter _, fun x hx y hy e => ?_⟩
    subst e
    have h1 := (List.mem_filter.mp hx).1
    have h2 := (List.mem_filter.mp hy).2
    rw [Bool.and_eq_true] at h2
    rw [decide_eq_true h1] at h2
    exact absurd h2.2 (by decide)
  refine ⟨up_of_le hs (hp.nodup_iff.mpr nd), fun x => ?_⟩
  rw [hp.mem_iff, List.mem_append, List.mem_filter, List.mem_filter, Bool.or_eq_true, Bool.and_eq_true]
  simp only [decide_eq_true_eq, Bool.not_eq_true', decide_eq_false_iff_not]
  by_cases x ∈ a <;> by_cases x ∈ b <;> by_cases x ∈ c <;> simp_all
theorem filt_yes {α : Type} {f : α → Bool} {l : List α} {i : Nat} {n : α} (hn : l[i]? = some n) (hf : f n = true) : (l.take (i + 1)).filter f = (l.take i).filter f ++ [n] := by
  rw [take_snoc hn, List.filter_append, List.filter_cons, if_pos hf]
  rfl
theorem filt_no {α : Type} {f : α → Bool} {l : List α} {i : Nat} {n : α} (hn : l[i]? = some n) (hf : f n = false) : (l.take (i + 1)).filter f = (l.take i).filter f := by
  rw [take_snoc hn, List.filter_append, List.filter_cons, if_neg (by rw [hf]; decide)]
  exact List.append_nil _
theorem filt_len {α : Type} (f : α → Bool) (l : List α) (i : Nat) : ((l.take i).filter f).length ≤ l.length :=
  Nat.le_trans (List.length_filter_le _ _) (by rw [List.length_take]; omega)
end TW
set_option Elab.async false
set_option linter.all false
set_option maxRecDepth 100000
set_option maxHeartbeats 4000000
namespace TW
open PySem PySem.Spec PyProof.Rows L2
/-! calls by keywords alone -/
def OkKw (P : Program) (w : World) (K : PySem.W.Frag) (mg : Str → Option Value) (base : Heap) (k : Nat) (x : Str) (ps ks : List Str) (g : List Value → List Value → List Value) (gV : List V → List V → List V) (sp : Sp) : Prop :=
  ∃ (f : Addr) (fd : FuncData), FnOk P w K mg base CX0 k f fd ps sp ∧ mg x = some (.ref f) ∧ PySem.W.keepIn K (.ref f) = true ∧ KBinds K fd ps ks g gV
def tKw (sp : Sp) (gV : List V → List V → List V) (tk : TA) : TE := fun σ H Q => tk σ H fun zs H2 => sp (gV [] zs) H2 Q E0
theorem pe_kw0 {X : Cx} {k : Nat} {x : Str} {ps ks : List Str} {g : List Value → List Value → List Value} {gV : List V → List V → List V} {sp : Sp} {kws : List Keyword} {tk : TA} {p pos : Pos} (O : OkKw X.prog X.w X.K X.mg X.base k x ps ks g gV sp) (hr : Room k X.A) (hkw : PK X kws tk) (hg : Gl X x := by rfl)
    (hall : (backToKw pos (keywordEach kws X.env)).all (·.1.isSome) = true := by rfl) (hks : (backToKw pos (keywordEach kws X.env)).filterMap (·.1) = ks := by rfl) (hdb : (x == ("__debug__" : Str)) = false := by decide)
    (hpl : ((backTo pos (starEach [] X.env)).any (·.1) || (backToKw pos (keywordEach kws X.env)).any (·.1.isNone)) = false := by rfl) : PE X (.Call (.Name x p) [] kws pos) (tKw sp gV tk) := by
  obtain ⟨f, fd, F, gm, kp, b⟩ := O
  refine ⟨fun pins s σ H Q I h => wpAny_Call_Name_kw (ld_glob I hg gm ?_ hdb)⟩
  refine PySem.W.callWith_KW0 (h₀ := X.base) I.ok.mod.kin kp hall (thn (hkw.run pos pins s σ H _ I h) fun ws s2 h2 => ?_) hpl
  obtain ⟨zs, H2, I2, rz, q2⟩ := h2
  refine ⟨I2.kIn, ?_⟩
  rw [hks]
  exact run_fnk (us := []) (vs := []) F hr b pass0 I2 .nil rz q2
theorem set_same {α : Type} {l : List α} {j : Nat} {x : α} (h : l[j]? = some x) : l.set j x = l := by
  refine List.ext_getElem? fun i => ?_
  by_cases e : j = i
  · subst e
    rw [List.getElem?_set_self (List.getElem?_eq_some_iff.mp h).1, h]
  · rw [List.getElem?_set_ne e]
/-- if m: xs.append(k), both ways at once -/
theorem if_app {K : PySem.W.Frag} {D : Ends} {σ : L2.St} {H0 H : Hp} {l : List (Addr × HO)} {j sl sk : Nat} {o : Addr} {L : List Int} {k : Int} (m : Bool) (hs : σ[sl]? = some (some (.ref o))) (hk : σ[sk]? = some (some (.int k))) (T : Has H0 H l) (hj : l[j]? = some (o, .lst (L.map V.int)))
    (hz : L.length < 100000) (go : ∀ H', Has H0 H' (l.set j (o, .lst ((if m = true then L ++ [k] else L).map V.int))) → D.nx σ H') : if m = true then tDrop (tBM K "list" rAppend (tVar sl) (tCons (tVar sk) tNil)) D σ H else tNext D σ H := by
  cases m with
  | true =>
    refine ⟨_, hs, .inl ⟨rfl, _, Evl.sq_of (T.get j hj)⟩, _, hk, o, _, _, rfl, rfl, T.get j hj, szl (by rw [List.length_map]; exact hz), ?_⟩
    refine go _ ?_
    rw [if_pos rfl, List.map_append]
    exact T.set j hj
  | false =>
    refine go H ?_
    rw [if_neg (by decide), set_same hj]
    exact T
theorem rep_tup {n : Nat} {H : Hp} {t u : Addr} {m : List Int} (h : H t = some (.tup (m.map V.int))) (h' : H u = some (.tup (m.map V.int))) (hl : m.length ≤ 10000) : Rep (n + 1) H (.ref t) (.ref u) := by
  refine .inr ⟨t, u, _, _, rfl, rfl, .inr ⟨h, h'⟩, rfl, by rw [List.length_map]; exact hl, fun i x y hx hy => ?_⟩
  obtain ⟨v, hv, rfl⟩ := map_get hx
  rw [hx] at hy
  obtain rfl := Option.some.inj hy
  exact Rep.flat rfl
end TW
set_option Elab.async false
set_option linter.all false
set_option maxRecDepth 100000
set_option maxHeartbeats 4000000
namespace TW
open PySem PySem.Spec PyProof.Rows L2
section
variable {P : Program} {w : World} {K : PySem.W.Frag} {mg : Str → Option Value} {base : Heap}
/-! check_lot, where it is a lot -/
theorem sc_check_lot : FnScope ["lot", "things"] ["lot", "things"] (defScope s_check_lot) := ⟨rfl, rfl, rfl, by decide +kernel, rfl, by decide +kernel, by decide +kernel⟩
def spCheckLot (K : PySem.W.Frag) : Sp := fun vs H Q _ => ∃ (a : Addr) (ns : List Int) (t : Option Int), vs = [.ref a, thV t] ∧ SqT K H a (ns.map V.int) ∧ ns.length ≤ 1000 ∧ isLot ns t = true ∧ ∀ H', Ex H H' → Q .non H'
theorem ok_check_lot (D : Dfn K mg "check_lot" s_check_lot ["lot", "things"]) (O_is_lot : Ok P w K mg base 3 "is_lot" ["value", "things"] (spIsLot K)) : Ok P w K mg base 4 "check_lot" ["lot", "things"] (spCheckLot K) := D.ok fun f fd F => by
  refine F.ok sc_check_lot (fun vs H Q E h => ?_) (fun cdv A outer s H vs Q E hr h => ?_)
  · obtain ⟨a, ns, t, rfl, _⟩ := h
    rfl
  · obtain ⟨a, ns, t, rfl, hT, hl, hb, q⟩ := h
    refine ⟨_, (pss_one (ps_if (pt_not (pt_val (pe_o O_is_lot hr (pa_cons (pv 0) (pa_cons (pv 1) pa_nil))))) (pss_one ps_never) pss_nil)), ?_⟩
    refine ⟨_, rfl, _, rfl, a, ns, t, rfl, hT, hl, fun H1 e1 => ?_⟩
    rw [hb]
    exact ⟨_, rfl, q H1 e1⟩
def spMiddle (K : PySem.W.Frag) : Sp := fun vs H Q _ => ∃ (a b c : Addr) (xs ys zs : List Int), vs = [.ref a, .ref b, .ref c] ∧ SqT K H a (xs.map V.int) ∧ SqT K H b (ys.map V.int) ∧ SqT K H c (zs.map V.int) ∧ lotOk xs ∧ lotOk ys ∧ lotOk zs ∧
  ∀ (p : Addr) (H' : Hp) (m : List Int), H p = none → Ex H H' → H' p = some (.tup (m.map V.int)) → IsMid xs ys zs m → Q (.ref p) H'
end
end TW
set_option Elab.async false
set_option linter.all false
set_option maxRecDepth 100000
set_option maxHeartbeats 4000000
/-! sorted of a list of tuples of ints of any lengths, the empty one too -/
namespace TW
open PySem PySem.W PySem.Calls PyProof.Rows
theorem lex_list : ∀ xs ys : List Int, HT.lexLt xs ys = decide (xs < ys)
  | [], [] => rfl
  | [], y :: ys => (decide_eq_true (by exact List.nil_lt_cons y ys)).symm
  | x :: xs, [] => (decide_eq_false (by exact List.not_lt_nil _)).symm
  | x :: xs, y :: ys => by
    rw [HT.lexLt_cons, Bool.eq_iff_iff, decide_eq_true_eq, List.cons_lt_cons_iff]
    by_cases e : x = y
    · subst e
      rw [if_pos rfl, lex_list xs ys, decide_eq_true_eq]
      constructor
      · exact fun h => .inr ⟨rfl, h⟩
      · rintro (h | ⟨_, h⟩)
        · exact absurd h (Int.lt_irrefl x)
        · exact h
    · rw [if_neg e, decide_eq_true_eq]
      constructor
      · exact .inl
      · rintro (h | ⟨h, _⟩)
        · exact h
        · exact absurd h e
def tupD (ns : List Int) : PyData := .tuple (ns.map .int)
theorem lt_tupD (xs ys : List Int) : dataLt (tupD xs) (tupD ys) = HT.lexLt xs ys := by
  unfold tupD
  rw [dataLt_tuple, lex_list]
  exact dataLt_ints xs ys
theorem alike_tupD (xs ys : List Int) : alike (tupD xs) (tupD ys) = true := by
  unfold tupD
  simpa [alike] using alike_ints xs ys
theorem depth_tupD (xs : List Int) : (tupD xs).depth ≤ 1 := by
  unfold tupD
  simp [PyData.depth, depth_ints]
section
variable {prog : Program} {w : World} {A : Around} {E : Value → Shared → Prop} {s : Shared} {M : Model}
theorem ints_of_reads : ∀ {ns : List Int} {vs : List Value} {as : List Addr}, ReadsAll s.heap vs (ns.map .int) as → IntsAre vs ns
  | [], _, _, h => by cases h; exact .nil
  | n :: ns, _, _, h => by
    cases h with
    | cons r1 r2 =>
      cases r1
      exact .cons _ _ (ints_of_reads r2)
theorem first_lots : ∀ {vs : List Value} {ds : List PyData}, EachIs (fun v d => ∃ as, Reads s.heap v d as) vs ds → (∀ d ∈ ds, ∃ ns, d = tupD ns) →
    ∃ fs : List (Option Value), (fs.all (·.isSome) = true → ∀ d ∈ ds, ∃ x r, d = .tuple (x :: r)) ∧ ∀ {E : Value → Shared → Prop} {Q : List (Option Value) → Shared → Prop}, Q fs s → wpAny M A (vs.mapM firstOfTuple') Q E s
  | _, _, .nil, _ => ⟨[], fun _ d hd => absurd hd List.not_mem_nil, fun {E Q} h => by rw [List.mapM_nil]; exact wpAny_pure h⟩
  | v :: vs, d :: ds, .cons ⟨as, r⟩ t, hl => by
    obtain ⟨fs, h1, h2⟩ := first_lots t fun d hd => hl d (List.mem_cons_of_mem _ hd)
    obtain ⟨ns, rfl⟩ := hl d List.mem_cons_self
    unfold tupD at r
    cases r with
    | @tuple a o xs n _ _ ho hc hd hr =>
      refine ⟨xs[0]? :: fs, fun hall d hm => ?_, fun {E Q} hq => ?_⟩
      · rw [List.all_cons, Bool.and_eq_true] at hall
        rcases List.mem_cons.mp hm with e | e
        · subst e
          cases ns with
          | nil =>
            have q : xs.toList = [] := by
              cases e2 : xs.toList with
              | nil => rfl
              | cons f fr => rw [e2] at hr; cases hr
            have q2 : xs = #[] := by simpa using q
            rw [q2] at hall
            exact absurd hall.1 (by simp)
          | cons k r => exact ⟨_, _, rfl⟩
        · exact h1 hall.2 d e
      · rw [List.mapM_cons, kas_first_eq]
        refine wpAny_bind (wpAny_bind (Looks.here (show Looks M s.heap (typeOf (.ref a)) o.cls from (Looks.ld ho).andThen .now) ?_))
        rw [hc, if_neg (by simp)]
        refine wpAny_bind (listItems_at ho hd (wpAny_pure ?_))
        exact wpAny_bind (h2 (wpAny_pure hq))
theorem oneLt_tups {f : Bool} {xs ys : List Int} {a b : Value} {as bs : List Addr} {Q : Bool → Shared → Prop} (ra : Reads s.heap a (tupD xs) as) (rb : Reads s.heap b (tupD ys) bs) (hu : A.units + 3 < cLine) (hq : Q (HT.lexLt xs ys) s) : wpAny (model prog w) A (oneLt' f a b) Q E s := by
  cases f with
  | false =>
    refine oneLt_alike (fun h => absurd h Bool.false_ne_true) ra rb (alike_tupD xs ys) (fun h => by cases h) ?_ (by rw [lt_tupD]; exact hq)
    have d1 := depth_tupD xs
    omega
  | true =>
    unfold tupD at ra rb
    cases ra with
    | @tuple l o its n _ _ h1 h2 h3 h4 =>
      cases rb with
      | @tuple l' o' its' n' _ _ k1 k2 k3 k4 =>
        obtain ⟨oc, od, odat, osl⟩ := o
        obtain ⟨oc', od', odat', osl'⟩ := o'
        simp only at h2 h3 k2 k3
        subst h2 h3 k2 k3
        rw [oneLt'_eq]
        simp only [if_true]
        refine wpAny_bind (wpAny_cRoomFor (by omega) ?_)
        refine wpAny_bind (wpAny_callSpecialIfBound?_slot (T := "tuple") ⟨_, h1, rfl⟩ F.slot_tuple_lt (call_meets F.slot_tuple_lt ⟨_, h1, rfl⟩ F.entry_tuple_lt (F.args_tuple_lt_2 _ _) (HT.tuple_lt_ints l l' its its' n n' od od' osl osl' xs ys (ints_of_reads h4) (ints_of_reads k4)) ⟨h1, k1, ?_⟩))
        exact wpAny_truthy_bool hq
theorem sorts_lots {vs : List Value} {ds : List PyData} (e : EachIs (fun v d => ∃ as, Reads s.heap v d as) vs ds) (hl : ∀ d ∈ ds, ∃ ns, d = tupD ns) (hu : A.units + 5 < cLine) : SortsAt prog w A s (dataKind s.heap ds) vs := by
  have hal : AllAlike ds := fun d hd d' hd' => by
    obtain ⟨xs, rfl⟩ := hl d hd
    obtain ⟨ys, rfl⟩ := hl d' hd'
    exact alike_tupD xs ys
  obtain ⟨fs, hfs, run⟩ := first_lots (M := model prog w) (A := A) e hl
  by_cases hs : fs.all (·.isSome) = true
  · refine SortsAt.data e hal (.inl (hfs hs)) fun d hd => ?_
    obtain ⟨xs, rfl⟩ := hl d hd
    have := depth_tupD xs
    omega
  · have lt : ∀ kd : SortKind, (∀ x y, keyLt' kd x y = oneLt' true x y) ∨ (∀ x y, keyLt' kd x y = oneLt' false x y) → PyProof.Rows.H.LtAt prog w A s (dataKind s.heap ds) kd := fun kd hk E x y a b Q ha hb hq => by
      obtain ⟨d, as, hd, ra, rfl⟩ := dataKind_inv ha
      obtain ⟨d', as', hd', rb, rfl⟩ := dataKind_inv hb
      obtain ⟨xs, rfl⟩ := hl d hd
      obtain ⟨ys, rfl⟩ := hl d' hd'
      have hq' : Q (dataLt (tupD xs) (tupD ys)) s := hq
      rw [lt_tupD] at hq'
      rcases hk with hk | hk
      · rw [hk]
        exact oneLt_tups ra rb (by omega) hq'
      · rw [hk]
        exact oneLt_tups ra rb (by omega) hq'
    refine ⟨fun v hv => ?_, ?_⟩
    · obtain ⟨d, hd, as, r⟩ := e.left v hv
      exact ⟨_, dataKind_some hal hd r⟩
    · have hna : ¬ (fs.toArray.all fun x => x.isSome) = true := by simpa using hs
      by_cases h0 : (fs[0]?.bind id).isSome = true
      · refine ⟨general', lt _ (.inr fun _ _ => rfl), fun h2 E Q hq => ?_⟩
        rw [kat_kind_eq, List.mapM_toArray, map_eq_pure_bind]
        refine wpAny_bind (wpAny_bind (run (wpAny_pure ?_)))
        rw [if_neg hna, if_pos (by simpa using h0)]
        exact wpAny_pure hq
      · refine ⟨oneType', lt _ (.inl fun _ _ => rfl), fun h2 E Q hq => ?_⟩
        obtain ⟨v₁, v₂, rest, rfl⟩ : ∃ v₁ v₂ rest, vs = v₁ :: v₂ :: rest := by
          match vs, h2 with
          | v₁ :: v₂ :: rest, _ => exact ⟨v₁, v₂, rest, rfl⟩
          | [], h => exact absurd h (by decide)
          | [v], h => exact absurd h (by simp)
        rw [kat_kind_eq, List.mapM_toArray, map_eq_pure_bind]
        refine wpAny_bind (wpAny_bind (run (wpAny_pure ?_)))
        rw [if_neg hna, if_neg (by simpa using h0), oneTypeOnly'_eq, List.mapM_toArray, map_eq_pure_bind]
        refine wpAny_bind (wpAny_bind (wpAny_bind (kas_mapM (r := Value.type "tuple") _ (fun v hv Q' hq' => ?_) (wpAny_pure ?_))))
        · obtain ⟨d, hd, as, r⟩ := e.left v hv
          obtain ⟨xs, rfl⟩ := hl d hd
          exact (looks_reads r).here hq'
        · have all1 : ((List.map (fun _ => Value.type "tuple") (v₁ :: v₂ :: rest)).toArray.all fun x => x == Value.type "tuple") = true := by
            simp only [List.all_toArray, List.all_map, List.all_eq_true]
            exact fun _ _ => beq_self_eq_true _
          have at0 : (List.map (fun _ => Value.type "tuple") (v₁ :: v₂ :: rest)).toArray[0]? = some (Value.type "tuple") := by simp
          rw [at0]
          simp only [all1, if_true]
          exact wpAny_pure (wpAny_pure hq)
end
end TW
set_option Elab.async false
set_option linter.all false
set_option maxRecDepth 100000
set_option maxHeartbeats 4000000
/-! sorted of a list of data, as a rule -/
namespace TW
open PySem PySem.Spec PyProof.Rows L2
open PySem.W (EachIs AllAlike Sortable dataLt dataLe dataKind)
theorem each_of_vals : ∀ {bs : List (V × PyData)} {us : List Value}, Vals (bs.map (·.1)) us → EachIs (fun v b => RelV b.1 v) us bs
  | [], _, .nil => .nil
  | b :: bs, _, .cons r t => .cons r (each_of_vals t)
theorem vals_of_each : ∀ {us : List Value} {bs : List (V × PyData)}, EachIs (fun v b => RelV b.1 v) us bs → Vals (bs.map (·.1)) us
  | _, _, .nil => .nil
  | _, _, .cons r t => .cons r (vals_of_each t)
theorem dataLe_pw (bs : List (V × PyData)) : (bs.mergeSort (dataLe false (·.2))).Pairwise (fun x y => dataLt y.2 x.2 = false) := by
  have T := PySem.W.sortLe_total (PyProof.Rows.listOrd PyProof.Rows.itemOrd) false (fun b : V × PyData => PySem.W.keyToks b.2)
  have e : dataLe false (fun b : V × PyData => b.2) = PySem.W.sortLe (PyProof.Rows.listOrd PyProof.Rows.itemOrd) false (fun b : V × PyData => PySem.W.keyToks b.2) := rfl
  have h := List.pairwise_mergeSort (le := dataLe false (fun b : V × PyData => b.2)) (fun a b c h1 h2 => by rw [e] at h1 h2 ⊢; exact T.trans a b c h1 h2) (fun a b => by rw [e]; rcases T.total a b with h | h <;> simp [h]) bs
  refine h.imp fun {x y} h => ?_
  have h' : (!dataLt y.2 x.2) = true := h
  rw [Bool.not_eq_true'] at h'
  exact h'
def rSortD (K : PySem.W.Frag) : List V → Hp → VK → Prop := fun vs H Q => ∃ (a : Addr) (bs : List (V × PyData)), vs = [.ref a] ∧ SqL K H a (bs.map (·.1)) ∧ (∀ b ∈ bs, Dp K H b.1 b.2) ∧
  ((AllAlike (bs.map (·.2)) ∧ Sortable (bs.map (·.2))) ∨ ∀ b ∈ bs, ∃ ns, b.2 = tupD ns) ∧ (∀ b ∈ bs, b.2.depth ≤ 20) ∧
  ∀ (bs' : List (V × PyData)) (p : Addr), bs'.Perm bs → bs'.Pairwise (fun x y => dataLt y.2 x.2 = false) → H p = none → Q (.ref p) (upd H p (.lst (bs'.map (·.1))))
def rSortE (K : PySem.W.Frag) : List V → Hp → VK → Prop := fun vs H Q => ∃ (a : Addr) (bs : List (V × PyData)), vs = [.ref a] ∧ SqL K H a (bs.map (·.1)) ∧ (∀ b ∈ bs, Dp K H b.1 b.2) ∧
  ((AllAlike (bs.map (·.2)) ∧ Sortable (bs.map (·.2))) ∨ ∀ b ∈ bs, ∃ ns, b.2 = tupD ns) ∧ (∀ b ∈ bs, b.2.depth ≤ 20) ∧
  ∀ p : Addr, H p = none → Q (.ref p) (upd H p (.lst ((bs.mergeSort (dataLe false (·.2))).map (·.1))))
section
variable {X : Cx} {K : PySem.W.Frag}
theorem cr_sortE (hu : X.A.units + 64 < cLine) (hK : X.K = K := by rfl) : CallR X (.builtin "sorted") (rSortE K) := by
  subst hK
  intro pins s σ H vs us Q I r h
  obtain ⟨a, bs, rfl, hs, hd, hk, hdep, q⟩ := h
  obtain ⟨its, rv, hl, hz⟩ := I.list hs
  rw [Vals.ref1 r]
  have lz : its.length = bs.length := by rw [← rv.length, List.length_map]
  have e := each_of_vals rv
  have er : EachIs (fun v b => ∃ as, Reads s.heap v b.2 as) its bs := by
    have e2 := PySem.W.each_mem e
    exact e2.mono fun v b z => Dp.reads I b.2 b.1 v (hd b z.2) z.1
  have er' : EachIs (fun v b => ∃ as, Reads (PySem.W.sortingHeap (PySem.W.copyHeap s.heap its) (s.heap.objs.size + 1) its) v b.2 as) its bs := er.mono fun _ _ z => by
    obtain ⟨as, r⟩ := z
    exact ⟨as, PyProof.Rows.Reads.keeps (fun _ _ => PySem.W.sorting_copy_old) r⟩
  have hal : AllAlike (bs.map (·.2)) := by
    rcases hk with hk | hk
    · exact hk.1
    · intro d hd1 d' hd2
      obtain ⟨b, hb, rfl⟩ := List.mem_map.mp hd1
      obtain ⟨b', hb', rfl⟩ := List.mem_map.mp hd2
      obtain ⟨xs, e1⟩ := hk b hb
      obtain ⟨ys, e2⟩ := hk b' hb'
      rw [e1, e2]
      exact alike_tupD xs ys
  have em := PySem.W.each_map (R := fun v d => ∃ as, Reads (PySem.W.sortingHeap (PySem.W.copyHeap s.heap its) (s.heap.objs.size + 1) its) v d as) (fun b : V × PyData => b.2) er'
  have S : PySem.W.SortsAt X.prog X.w X.A.in1.in1 { s with heap := PySem.W.sortingHeap (PySem.W.copyHeap s.heap its) (s.heap.objs.size + 1) its } (dataKind (PySem.W.sortingHeap (PySem.W.copyHeap s.heap its) (s.heap.objs.size + 1) its) (bs.map (·.2))) its := by
    rcases hk with hk | hk
    · refine PySem.W.SortsAt.data em hal hk.2 fun d hd1 => ?_
      obtain ⟨b, hb, rfl⟩ := List.mem_map.mp hd1
      have := hdep b hb
      show X.A.units + 1 + 1 + b.2.depth < cLine
      omega
    · refine sorts_lots em (fun d hd1 => ?_) (by show X.A.units + 1 + 1 + 5 < cLine; omega)
      obtain ⟨b, hb, rfl⟩ := List.mem_map.mp hd1
      exact hk b hb
  refine PySem.W.sorted_vals hl.isList S (by rw [← rv.length]; exact hz) ?_
  have eo := PySem.W.sortVals_data (h' := PySem.W.sortingHeap (PySem.W.copyHeap s.heap its) (s.heap.objs.size + 1) its) (enc := fun b : V × PyData => b.2) false e er' hal
  generalize PySem.W.sortVals (dataKind (PySem.W.sortingHeap (PySem.W.copyHeap s.heap its) (s.heap.objs.size + 1) its) (bs.map (·.2))) false its its = out at eo
  obtain ⟨ep, hat⟩ := PyProof.Rows.sortedAll_at s.heap its out.toArray
  have pm : (bs.mergeSort (dataLe false (·.2))).Perm bs := List.mergeSort_perm bs _
  have hlen : ((bs.mergeSort (dataLe false (·.2))).map (·.1)).length ≤ sizeLine := by
    rw [List.length_map, pm.length_eq, ← List.length_map (f := (·.1))]
    exact hz
  exact ⟨.ref _, upd H (s.heap.objs.size + 1) (.lst ((bs.mergeSort (dataLe false (·.2))).map (·.1))), I.laid (t' := s.toks) (fun _ _ => PyProof.Rows.sortedAll_old) (Nat.le_succ _) ⟨hlen, out, ep, vals_of_each eo, hat⟩, rfl, q _ (I.hok.fresh (Nat.le_succ _))⟩
theorem cr_sortD (hu : X.A.units + 64 < cLine) (hK : X.K = K := by rfl) : CallR X (.builtin "sorted") (rSortD K) := fun pins s σ H vs us Q I r h => by
  obtain ⟨a, bs, h1, h2, h3, h4, h5, q⟩ := h
  exact cr_sortE hu hK pins s σ H vs us Q I r ⟨a, bs, h1, h2, h3, h4, h5, fun p hp => q _ p (List.mergeSort_perm bs _) (dataLe_pw bs) hp⟩
end
/-! lots -/
section
variable {K : PySem.W.Frag} {H : Hp}
theorem dpAll_ints : ∀ ns : List Int, DpAll K H (ns.map V.int) (ns.map .int)
  | [] => .nil
  | n :: ns => .cons (.int n) (dpAll_ints ns)
theorem dp_lot {t : Addr} {ns : List Int} (h : SqT K H t (ns.map V.int)) : Dp K H (.ref t) (tupD ns) := .tup h (dpAll_ints ns)
end
end TW
set_option Elab.async false
set_option linter.all false
set_option maxRecDepth 100000
set_option maxHeartbeats 4000000
/-! data that stands in the heap -/
namespace TW
open PySem PySem.Spec PyProof.Rows L2
open PySem.W (EachIs AllAlike Sortable dataLt dataLe dataKind)
inductive At (H : Hp) : V → PyData → Prop
  | non : At H .non .none
  | bl (b : Bool) : At H (.bl b) (.bool b)
  | int (i : Int) : At H (.int i) (.int i)
  | str (x : Str) : At H (.str x) (.str x)
  | lst {a : Addr} {xs : List V} {ds : List PyData} (h : H a = some (.lst xs)) (l : xs.length = ds.length) (p : ∀ (i : Nat) x d, xs[i]? = some x → ds[i]? = some d → At H x d) : At H (.ref a) (.list ds)
  | tup {a : Addr} {xs : List V} {ds : List PyData} (h : H a = some (.tup xs)) (l : xs.length = ds.length) (p : ∀ (i : Nat) x d, xs[i]? = some x → ds[i]? = some d → At H x d) : At H (.ref a) (.tuple ds)
def Ats (H : Hp) (xs : List V) (ds : List PyData) : Prop := xs.length = ds.length ∧ ∀ (i : Nat) x d, xs[i]? = some x → ds[i]? = some d → At H x d
section
variable {H H' : Hp} {K : PySem.W.Frag} {x : V} {d : PyData} {a : Addr} {xs : List V} {ds : List PyData}
theorem At.ex (e : Ex H H') (h : At H x d) : At H' x d := by
  induction h with
  | non => exact .non
  | bl b => exact .bl b
  | int i => exact .int i
  | str x => exact .str x
  | lst h l p ih => exact .lst (e _ _ h) l ih
  | tup h l p ih => exact .tup (e _ _ h) l ih
theorem Ats.ex (e : Ex H H') (h : Ats H xs ds) : Ats H' xs ds := ⟨h.1, fun i x d h1 h2 => (h.2 i x d h1 h2).ex e⟩
theorem Ats.nil : Ats H [] [] := ⟨rfl, fun i x d h _ => by cases h⟩
theorem Ats.cons (h : At H x d) (t : Ats H xs ds) : Ats H (x :: xs) (d :: ds) := ⟨by rw [List.length_cons, List.length_cons, t.1], fun i y e h1 h2 => by
  cases i with
  | zero =>
    cases h1
    cases h2
    exact h
  | succ i => exact t.2 i y e h1 h2⟩
theorem Ats.head (h : Ats H (x :: xs) (d :: ds)) : At H x d := h.2 0 x d rfl rfl
theorem Ats.rest (h : Ats H (x :: xs) (d :: ds)) : Ats H xs ds := ⟨by have := h.1; rw [List.length_cons, List.length_cons] at this; omega, fun i y e h1 h2 => h.2 (i + 1) y e h1 h2⟩
theorem Ats.snoc (h : Ats H xs ds) (t : At H x d) : Ats H (xs ++ [x]) (ds ++ [d]) := ⟨by rw [List.length_append, List.length_append, h.1]; rfl, fun i y e h1 h2 => by
  rcases Nat.lt_trichotomy i xs.length with c | c | c
  · rw [List.getElem?_append_left c] at h1
    rw [List.getElem?_append_left (by rw [← h.1]; exact c)] at h2
    exact h.2 i y e h1 h2
  · rw [List.getElem?_append_right (by omega), show i - xs.length = 0 by omega] at h1
    rw [List.getElem?_append_right (by rw [← h.1]; omega), show i - ds.length = 0 by rw [← h.1]; omega] at h2
    cases h1
    cases h2
    exact t
  · rw [List.getElem?_append_right (by omega), List.getElem?_eq_none (by rw [List.length_singleton]; omega)] at h1
    cases h1⟩
theorem Ats.append {ys : List V} {es : List PyData} (h : Ats H xs ds) (t : Ats H ys es) : Ats H (xs ++ ys) (ds ++ es) := by
  induction ys generalizing xs ds es with
  | nil =>
    cases es with
    | nil => rw [List.append_nil, List.append_nil]; exact h
    | cons e es => cases t.1
  | cons y ys ih =>
    cases es with
    | nil => cases t.1
    | cons e es =>
      have := ih (h.snoc t.head) t.rest
      rw [List.append_assoc, List.append_assoc] at this
      exact this
theorem Ats.at_ (h : Ats H xs ds) {i : Nat} (hd : ds[i]? = some d) : ∃ x, xs[i]? = some x ∧ At H x d := by
  have hi := (List.getElem?_eq_some_iff.mp hd).1
  have hx : xs[i]? = some (xs[i]'(by rw [h.1]; exact hi)) := List.getElem?_eq_getElem (by rw [h.1]; exact hi)
  exact ⟨_, hx, h.2 i _ _ hx hd⟩
theorem Ats.at' (h : Ats H xs ds) {i : Nat} (hx : xs[i]? = some x) : ∃ d, ds[i]? = some d ∧ At H x d := by
  have hi := (List.getElem?_eq_some_iff.mp hx).1
  have hd : ds[i]? = some (ds[i]'(by rw [← h.1]; exact hi)) := List.getElem?_eq_getElem (by rw [← h.1]; exact hi)
  exact ⟨_, hd, h.2 i _ _ hx hd⟩
theorem Ats.map_ {α : Type} {l : List α} {f : α → V} {g : α → PyData} (h : ∀ y ∈ l, At H (f y) (g y)) : Ats H (l.map f) (l.map g) := by
  induction l with
  | nil => exact .nil
  | cons y l ih => exact .cons (h y List.mem_cons_self) (ih fun z hz => h z (List.mem_cons_of_mem _ hz))
theorem At.mkL (h : H a = some (.lst xs)) (t : Ats H xs ds) : At H (.ref a) (.list ds) := .lst h t.1 t.2
theorem At.mkT (h : H a = some (.tup xs)) (t : Ats H xs ds) : At H (.ref a) (.tuple ds) := .tup h t.1 t.2
theorem At.isL (h : At H x (.list ds)) : ∃ a xs, x = .ref a ∧ H a = some (.lst xs) ∧ Ats H xs ds := by
  cases h with
  | lst h l p => exact ⟨_, _, rfl, h, l, p⟩
theorem At.isT (h : At H x (.tuple ds)) : ∃ a xs, x = .ref a ∧ H a = some (.tup xs) ∧ Ats H xs ds := by
  cases h with
  | tup h l p => exact ⟨_, _, rfl, h, l, p⟩
theorem At.isI {i : Int} (h : At H x (.int i)) : x = .int i := by
  cases h
  rfl
theorem At.isS {i : Str} (h : At H x (.str i)) : x = .str i := by
  cases h
  rfl
theorem ats_dp : ∀ {xs : List V} {ds : List PyData}, xs.length = ds.length → (∀ (i : Nat) x d, xs[i]? = some x → ds[i]? = some d → Dp K H x d) → DpAll K H xs ds
  | [], [], _, _ => .nil
  | [], _ :: _, h, _ => by cases h
  | _ :: _, [], h, _ => by cases h
  | x :: xs, d :: ds, h, p => .cons (p 0 x d rfl rfl) (ats_dp (by rw [List.length_cons, List.length_cons] at h; omega) fun i y e h1 h2 => p (i + 1) y e h1 h2)
theorem At.dp (h : At H x d) : Dp K H x d := by
  induction h with
  | non => exact .non
  | bl b => exact .bl b
  | int i => exact .int i
  | str x => exact .str x
  | lst h l p ih => exact .lst (Evl.sq_of h) (ats_dp l ih)
  | tup h l p ih => exact .tup (Evl.st_of h) (ats_dp l ih)
end
/-! sorted, to the item -/
def dLe : PyData → PyData → Bool := dataLe false id
theorem sort_data (bs : List (V × PyData)) : (bs.mergeSort (dataLe false (·.2))).map (·.2) = (bs.map (·.2)).mergeSort dLe := List.map_mergeSort fun _ _ _ _ => rfl
theorem ats_sort {H : Hp} {bs : List (V × PyData)} (h : ∀ b ∈ bs, At H b.1 b.2) : Ats H ((bs.mergeSort (dataLe false (·.2))).map (·.1)) ((bs.map (·.2)).mergeSort dLe) := by
  rw [← sort_data]
  exact Ats.map_ fun b hb => h b ((List.mergeSort_perm bs _).mem_iff.mp hb)
end TW
set_option Elab.async false
set_option linter.all false
set_option maxRecDepth 100000
set_option maxHeartbeats 4000000
namespace TW
open PySem PySem.Spec PyProof.Rows L2
/-! literals, rules, lots -/
abbrev Sgn := Nat × Bool
abbrev Bar := List Sgn
def sw (b : Bool) : Str := if b then "in" else "out"
def dSgn (s : Sgn) : PyData := .tuple [.int s.1, .str (sw s.2)]
def dBar (b : Bar) : PyData := .tuple (b.map dSgn)
def dBars (bs : List Bar) : PyData := .list (bs.map dBar)
def bitB (m : Int) (k : Nat) : Bool := decide (m / 2 ^ k % 2 = 1)
def lotOf (m : Int) (w : Nat) : List Int := ((List.range w).filter (bitB m)).map fun k : Nat => (k : Int)
def met (m : Int) (s : Sgn) : Bool := bitB m s.1 == s.2
def keptB (m : Int) (bs : List Bar) : Bool := bs.all fun b => b.any (met m)
theorem At.sgn {H : Hp} {v : V} {s : Sgn} (h : At H v (dSgn s)) : ∃ a, v = .ref a ∧ H a = some (.tup [.int s.1, .str (sw s.2)]) := by
  obtain ⟨a, xs, rfl, ha, hx⟩ := At.isT h
  match xs, hx with
  | [x, y], hx =>
    obtain rfl := hx.head.isI
    obtain rfl := hx.rest.head.isS
    exact ⟨a, rfl, ha⟩
  | [], hx => cases hx.1
  | [_], hx => cases hx.1
  | _ :: _ :: _ :: _, hx => cases hx.1
theorem at_sgn {H : Hp} {a : Addr} {s : Sgn} (h : H a = some (.tup [.int s.1, .str (sw s.2)])) : At H (.ref a) (dSgn s) := At.mkT h (.cons (.int _) (.cons (.str _) .nil))
theorem At.bar {H : Hp} {v : V} {b : Bar} (h : At H v (dBar b)) : ∃ a xs, v = .ref a ∧ H a = some (.tup xs) ∧ Ats H xs (b.map dSgn) := At.isT h
theorem At.bars {H : Hp} {v : V} {b : List Bar} (h : At H v (dBars b)) : ∃ a xs, v = .ref a ∧ H a = some (.lst xs) ∧ Ats H xs (b.map dBar) := At.isL h
theorem ats_get {α : Type} {H : Hp} {xs : List V} {l : List α} {f : α → PyData} (h : Ats H xs (l.map f)) {i : Nat} {x : V} (hx : xs[i]? = some x) : ∃ y, l[i]? = some y ∧ At H x (f y) := by
  obtain ⟨d, hd, hA⟩ := h.at' hx
  rw [List.getElem?_map] at hd
  cases e : l[i]? with
  | none => rw [e] at hd; cases hd
  | some y => rw [e] at hd; cases hd; exact ⟨y, rfl, hA⟩
theorem sw_in (b : Bool) : decide (V.str (sw b) = V.str "in") = b := by cases b <;> decide +kernel
theorem met_eq (m : Int) (s : Sgn) : decide (V.int (m / 2 ^ s.1 % 2 ^ 1) = V.int (if s.2 = true then 1 else 0)) = met m s := by
  unfold met bitB
  have e : m / 2 ^ s.1 % 2 ^ 1 = m / 2 ^ s.1 % 2 := by rw [Int.pow_one]
  rw [e]
  have h := Int.emod_two_eq (m / 2 ^ s.1)
  rcases h with h | h <;> rw [h] <;> cases s.2 <;> decide
section
variable {P : Program} {w : World} {K : PySem.W.Frag} {mg : Str → Option Value} {base : Heap}
/-! _law_met -/
theorem sc_law_met : FnScope ["mask", "sign"] ["mask", "sign"] (defScope s__law_met) := ⟨rfl, rfl, rfl, by decide +kernel, rfl, by decide +kernel, by decide +kernel⟩
def spMet : Sp := fun vs H Q _ => ∃ (m : Int) (v : V) (s : Sgn), vs = [.int m, v] ∧ At H v (dSgn s) ∧ Q (.bl (met m s)) H
theorem ok_met (D : Dfn K mg "_law_met" s__law_met ["mask", "sign"]) (z : Z mg) : Ok P w K mg base 1 "_law_met" ["mask", "sign"] spMet := D.ok fun f fd F => by
  refine F.ok sc_law_met (fun vs H Q E h => ?_) (fun cdv A outer s H vs Q E hr h => ?_)
  · obtain ⟨m, v, s, rfl, _⟩ := h
    rfl
  · obtain ⟨m, v, s, rfl, hv, q⟩ := h
    obtain ⟨a, rfl, ha⟩ := hv.sgn
    refine ⟨_, (pss_one (ps_ret (pe_cmpR op_eq (pe_op op_andM (pe_op op_shrN (pv 0) (pe_ix ix_tup (pv 1) pe_int (fun _ _ => rfl))) pe_int) (pe_callTy call_int1 (by rfl) z.int (by decide +kernel) (pa_cons (pe_cmpR op_eq (pe_ix ix_tup (pv 1) pe_int (fun _ _ => rfl)) pe_str (nomark _)) pa_nil)) (nomark _)))), ?_⟩
    refine ⟨_, rfl, _, rfl, a, _, 0, .int s.1, rfl, rfl, Evl.st_of ha, rfl, m, s.1, rfl, rfl, _, 1, rfl, rfl, ?_⟩
    refine ⟨_, rfl, a, _, 1, .str (sw s.2), rfl, rfl, Evl.st_of ha, rfl, rfl, .inr ⟨_, rfl, ?_⟩⟩
    rw [sw_in]
    have q' : Q (.bl (decide (V.int (m / 2 ^ s.1 % 2 ^ 1) = V.int (if s.2 = true then 1 else 0)))) H := by
      rw [met_eq]
      exact q
    exact ⟨rfl, q'⟩
/-! _law_all_kept -/
theorem sc_law_all_kept : FnScope ["mask", "bars", "bar", "sign"] ["mask", "bars"] (defScope s__law_all_kept) := ⟨rfl, rfl, rfl, by decide +kernel, rfl, by decide +kernel, by decide +kernel⟩
def spKept : Sp := fun vs H Q _ => ∃ (m : Int) (v : V) (bs : List Bar), vs = [.int m, v] ∧ At H v (dBars bs) ∧ (∀ b ∈ bs, b.length ≤ 100) ∧ ∀ H', Ex H H' → Q (.bl (keptB m bs)) H'
theorem take_any {α : Type} (f : α → Bool) {l : List α} {i : Nat} {x : α} (h : l[i]? = some x) : ((l.take (i + 1)).map f) = (l.take i).map f ++ [f x] := by
  rw [take_snoc h, List.map_append]
  rfl
theorem any_id {α : Type} (f : α → Bool) (l : List α) : (l.map f).any id = l.any f := by
  rw [List.any_map]
  rfl
theorem all_id {α : Type} (f : α → Bool) (l : List α) : (l.map f).all id = l.all f := by
  rw [List.all_map]
  rfl
theorem ok_kept (D : Dfn K mg "_law_all_kept" s__law_all_kept ["mask", "bars"]) (z : Z mg) (O_met : Ok P w K mg base 1 "_law_met" ["mask", "sign"] spMet) : Ok P w K mg base 2 "_law_all_kept" ["mask", "bars"] spKept := D.ok fun f fd F => by
  refine F.ok sc_law_all_kept (fun vs H Q E h => ?_) (fun cdv A outer s H vs Q E hr h => ?_)
  · obtain ⟨m, v, bs, rfl, _⟩ := h
    rfl
  · obtain ⟨m, v, bs, rfl, hv, hl, q⟩ := h
    obtain ⟨a, xs, rfl, ha, hx⟩ := hv.bars
    refine ⟨_, (pss_cons (ps_for PassesOwn.never rfl (pi_list (pv 1)) (pg_name (i := 2) sc_law_all_kept.nd rfl (Or.inl rfl))
      (pss_one (ps_if (pt_not (pt_val (pe_callB (cr_any rfl) (by rfl) z.any (by decide +kernel) (pa_cons (pe_lc (own := [("sign", 3)]) (g := gName 3) rfl sc_law_all_kept.nd (pi_tup (pv 2)) (blkOk_by (N := ["mask", "bars", "bar", "sign"]) (own := [("sign", 3)]) (sc := defScope s__law_all_kept) (by decide +kernel)) (fun _ _ _ _ _ => pg_name (i := 3) sc_law_all_kept.nd rfl (Or.inl rfl)) (fun _ _ _ _ _ => pts_nil) (fun _ _ _ _ _ => (pe_o O_met hr (pa_cons (pv 0) (pa_cons (pv 3) pa_nil))))) pa_nil)))) (pss_one (ps_ret pe_bl)) pss_nil)))
      (pss_one (ps_ret pe_bl))), ?_⟩
    refine ⟨_, rfl, a, rfl, ⟨_, Evl.sq_of ha⟩, for_list (K := K) (a := a) (xs := xs) (fun i σ H' => Ex H H' ∧ keptB m (bs.take i) = true ∧ ∃ v2 v3, σ = [some (.int m), some (.ref a), v2, v3]) ⟨Evl.Ex.refl H, rfl, none, none, rfl⟩ (fun i σ H' _ p => Evl.ex_l p.1 (Evl.sq_of ha)) ?_ ?_⟩
    · rintro i x σ H1 hi ⟨e1, hk, v2, v3, rfl⟩
      obtain ⟨b, hb, hA⟩ := ats_get hx hi
      obtain ⟨t, ys, rfl, ht, hy⟩ := (hA.ex e1).bar
      have hlen : ys.length ≤ 100 := by
        have := hy.1
        rw [List.length_map] at this
        rw [this]
        exact hl b (List.mem_of_getElem? hb)
      refine ⟨_, rfl, t, rfl, ⟨_, Evl.st_of ht⟩, fun Dl hD => ?_⟩
      refine lc_tup (K := K) (xs := ys) (fun j H' => Ex H1 H' ∧ H' Dl = some (.lst ((((b.take j).map (met m))).map V.bl))) ⟨Evl.Ex.new hD, by rw [upd_same]; rfl⟩ (fun j H' _ p => Evl.ex_t p.1 (Evl.st_of ht)) ?_ ?_
      · rintro j y H2 hj ⟨e2, h2⟩
        obtain ⟨s, hs, hS⟩ := ats_get hy hj
        refine ⟨rfl, _, rfl, _, rfl, m, y, s, rfl, hS.ex e2, _, h2, szl ?_, Evl.Ex.mut e2 hD, ?_⟩
        · rw [List.length_map, List.length_map, List.length_take]
          have := (List.getElem?_eq_some_iff.mp hj).1
          omega
        · rw [upd_same, take_any (met m) hs, List.map_append]
          rfl
      · rintro H2 ⟨e2, h2⟩
        have eL : b.take ys.length = b := List.take_of_length_le (by have := hy.1; rw [List.length_map] at this; omega)
        rw [eL] at h2
        refine ⟨Dl, _, rfl, Evl.sq_of h2, _, rfl, ?_⟩
        rw [any_id]
        have kn : keptB m (bs.take (i + 1)) = (keptB m (bs.take i) && b.any (met m)) := by
          unfold keptB
          rw [take_snoc hb, List.all_append]
          show ((bs.take i).all _ && (b.any (met m) && true)) = _
          rw [Bool.and_true]
        cases hq : b.any (met m) with
        | true => exact ⟨e1.trans e2, by rw [kn, hk, hq]; rfl, some (.ref t), _, rfl⟩
        | false =>
          have kf : keptB m bs = false := by
            unfold keptB
            rw [List.all_eq_false]
            exact ⟨b, List.mem_of_getElem? hb, by rw [hq]; decide⟩
          rw [kf] at q
          exact q H2 (e1.trans e2)
    · rintro σ H1 ⟨e1, hk, _⟩
      have eL : bs.take xs.length = bs := List.take_of_length_le (by have := hx.1; rw [List.length_map] at this; omega)
      rw [eL] at hk
      rw [hk] at q
      exact q H1 e1
end
end TW
set_option Elab.async false
set_option linter.all false
set_option maxRecDepth 100000
set_option maxHeartbeats 4000000
namespace TW
open PySem PySem.Spec PyProof.Rows L2
section
variable {G H H' : Hp} {l : List (Addr × HO)} {t p : Addr} {u o : HO}
/-- what will not change any more goes to the ground -/
theorem Has.sink (h : Has G H ((t, u) :: l)) : Has (upd G t u) H l := by
  have ht := h.own (t, u) List.mem_cons_self
  have nd := List.nodup_cons.mp (show ((t, u).1 :: l.map (·.1)).Nodup from h.nd)
  refine ⟨fun a o e => ?_, fun q hq => ?_, nd.2⟩
  · by_cases c : a = t
    · rw [c, upd_same] at e
      cases e
      rw [c]
      exact ht.2
    · rw [upd_ne c] at e
      exact h.ex a o e
  · have hq' := h.own q (List.mem_cons_of_mem _ hq)
    refine ⟨?_, hq'.2⟩
    rw [upd_ne (fun c => nd.1 (List.mem_map.mpr ⟨q, hq, c⟩))]
    exact hq'.1
theorem Has.exS (h : Has G H ((t, u) :: l)) : Ex G (upd G t u) := Evl.Ex.new (h.own (t, u) List.mem_cons_self).1
theorem Has.perm {l' : List (Addr × HO)} (h : Has G H l) (s : l.Perm l') : Has G H l' := ⟨h.ex, fun q hq => h.own q (s.mem_iff.mpr hq), (s.map (·.1)).nodup_iff.mp h.nd⟩
theorem Has.swap {q r : Addr × HO} (h : Has G H (q :: r :: l)) : Has G H (r :: q :: l) := h.perm (List.Perm.swap _ _ _)
theorem Has.drop2 {q r : Addr × HO} (h : Has G H (q :: r :: l)) : Has G H (q :: l) := h.sub ((List.sublist_cons_self _ _).cons₂ _)
theorem Has.free (h : Has G H l) {a : Addr} (n : H a = none) : G a = none := Evl.fresh_back h.ex n
end
/-! the draws -/
def WellO (k : Nat) (o : HO) : Prop := ∃ a b c : Int, o = wl a b c ∧ 0 ≤ a ∧ 0 ≤ b ∧ b ≤ k ∧ 0 ≤ c ∧ c < 2 ^ 81
theorem WellO.up {j k : Nat} {o : HO} (h : WellO j o) (e : j ≤ k) : WellO k o := by
  obtain ⟨a, b, c, h1, h2, h3, h4, h5⟩ := h
  exact ⟨a, b, c, h1, h2, h3, by omega, h5⟩
def spDrawsW : Sp := fun vs H Q _ => ∃ c : Int, vs = [.int c] ∧ ∀ p o, H p = none → WellO 0 o → Q (.ref p) (upd H p o)
def spDipW : Sp := fun vs H Q _ => ∃ (p : Addr) (n : Nat) (o : HO) (k : Nat), vs = [.ref p, .int n] ∧ H p = some o ∧ WellO k o ∧ k < 10 ^ 9 ∧ 0 < n ∧ (n : Int) < 2 ^ 200 ∧ ∀ (r : Nat) (o' : HO), r < n → WellO (k + 1) o' → Q (.int r) (upd H p o')
section
variable {P : Program} {w : World} {K : PySem.W.Frag} {mg : Str → Option Value} {base : Heap}
theorem Ok.imp {k : Nat} {x : Str} {ps : List Str} {sp sp' : Sp} (O : Ok P w K mg base k x ps sp) (h : ∀ vs H Q E, sp' vs H Q E → sp vs H Q E) : Ok P w K mg base k x ps sp' := by
  obtain ⟨f, fd, F, r⟩ := O
  exact ⟨f, fd, F.imp h, r⟩
theorem ok_drawsW (O : Ok P w K mg base 1 "_law_draws_of" ["cell"] spDraws) : Ok P w K mg base 1 "_law_draws_of" ["cell"] spDrawsW := O.imp fun vs H Q E h => by
  obtain ⟨c, rfl, q⟩ := h
  exact ⟨c, rfl, fun p hp a b ha hb hc => q p _ hp ⟨a, 0, b, rfl, ha, Int.le_refl _, Int.le_refl _, hb, hc⟩⟩
theorem ok_dipW (O : Ok P w K mg base 1 "_law_dip" ["well", "upto"] spDip) : Ok P w K mg base 1 "_law_dip" ["well", "upto"] spDipW := O.imp fun vs H Q E h => by
  obtain ⟨p, n, o, k, rfl, hp, ⟨a, b, c, rfl, ha, hb, hk, hc, hc'⟩, hk', hn, hn', q⟩ := h
  refine ⟨p, n, a, b, c, rfl, hp, by omega, hn', ha, hb, by omega, hc, hc', fun r a' b' r0 r1 a0 b0 b1 => ?_⟩
  have e : r = ((r.toNat : Nat) : Int) := by omega
  rw [e]
  exact q r.toNat _ (by omega) ⟨a', b', c, rfl, a0, by omega, by omega, hc, hc'⟩
/-! _law_one_sign -/
theorem sc_law_one_sign : FnScope ["well", "wide"] ["well", "wide"] (defScope s__law_one_sign) := ⟨rfl, rfl, rfl, by decide +kernel, rfl, by decide +kernel, by decide +kernel⟩
def spOneSign : Sp := fun vs H Q _ => ∃ (G : Hp) (l : List (Addr × HO)) (p : Addr) (o : HO) (k n : Nat), vs = [.ref p, .int n] ∧ Has G H ((p, o) :: l) ∧ WellO k o ∧ k < 10 ^ 8 ∧ 0 < n ∧ (n : Int) < 2 ^ 200 ∧
  ∀ (G' H' : Hp) (o' : HO) (x : V) (s : Sgn), Ex G G' → Has G' H' ((p, o') :: l) → WellO (k + 2) o' → s.1 < n → At G' x (dSgn s) → Q x H'
theorem ok_one_sign (D : Dfn K mg "_law_one_sign" s__law_one_sign ["well", "wide"]) (O_dip : Ok P w K mg base 1 "_law_dip" ["well", "upto"] spDipW) : Ok P w K mg base 2 "_law_one_sign" ["well", "wide"] spOneSign := D.ok fun f fd F => by
  refine F.ok sc_law_one_sign (fun vs H Q E h => ?_) (fun cdv A outer s H vs Q E hr h => ?_)
  · obtain ⟨G, l, p, o, k, n, rfl, _⟩ := h
    rfl
  · obtain ⟨G, l, p, o, k, n, rfl, S, wo, hk, hn, hn', q⟩ := h
    refine ⟨_, (pss_one (ps_ret (pe_tup (pa_cons (pe_o O_dip hr (pa_cons (pv 0) (pa_cons (pv 1) pa_nil))) (pa_cons (pe_ix ix_list (pe_lst (pa_cons pe_str (pa_cons pe_str pa_nil))) (pe_o O_dip hr (pa_cons (pv 0) (pa_cons pe_int pa_nil))) (fun _ _ => rfl)) pa_nil))))), ?_⟩
    refine ⟨_, rfl, _, rfl, p, n, o, k, rfl, S.get 0 rfl, wo, by omega, hn, hn', fun r o1 hr1 wo1 => ?_⟩
    have S1 : Has G _ ((p, o1) :: l) := S.set 0 rfl
    generalize upd H p o1 = H1 at S1
    refine ⟨sz (by show 2 ≤ 100000; decide), fun t nt => ?_⟩
    have S2 := S1.new (o := .lst [.str "in", .str "out"]) nt
    generalize upd H1 t (.lst [.str "in", .str "out"]) = H2 at S2
    refine ⟨_, rfl, p, 2, o1, k + 1, rfl, S2.get 1 rfl, wo1, by omega, by decide, by decide, fun r2 o2 hr2 wo2 => ?_⟩
    have S3 : Has G _ ((t, .lst [.str "in", .str "out"]) :: (p, o2) :: l) := S2.set 1 rfl
    generalize upd H2 p o2 = H3 at S3
    obtain ⟨b, hb⟩ : ∃ b, atI [V.str "in", V.str "out"] (r2 : Int) = some (.str (sw b)) := by
      have : r2 = 0 ∨ r2 = 1 := by omega
      rcases this with rfl | rfl
      · exact ⟨true, rfl⟩
      · exact ⟨false, rfl⟩
    refine ⟨t, _, r2, _, rfl, rfl, Evl.sq_of (S3.get 0 rfl), hb, sz (by show 2 ≤ 100000; decide), fun u nu => ?_⟩
    have S4 := (S3.tail.new (o := .tup [.int r, .str (sw b)]) nu)
    exact q _ _ o2 _ (r, b) S4.exS S4.sink wo2 hr1 (at_sgn upd_same)
/-! _law_one_bar -/
theorem sc_law_one_bar : FnScope ["well", "wide", "one", "two"] ["well", "wide"] (defScope s__law_one_bar) := ⟨rfl, rfl, rfl, by decide +kernel, rfl, by decide +kernel, by decide +kernel⟩
def barOk (n : Nat) (b : Bar) : Prop := b ≠ [] ∧ b.length ≤ 2 ∧ (∀ s ∈ b, s.1 < n) ∧ b.Pairwise fun s t => s.1 < t.1
def spOneBar : Sp := fun vs H Q _ => ∃ (G : Hp) (l : List (Addr × HO)) (p : Addr) (o : HO) (k n : Nat), vs = [.ref p, .int n] ∧ Has G H ((p, o) :: l) ∧ WellO k o ∧ k < 10 ^ 7 ∧ 0 < n ∧ (n : Int) < 2 ^ 200 ∧
  ∀ (G' H' : Hp) (o' : HO) (x : V) (b : Bar), Ex G G' → Has G' H' ((p, o') :: l) → WellO (k + 5) o' → barOk n b → At G' x (dBar b) → Q x H'
theorem alike_sgn (s t : Sgn) : PySem.W.alike (dSgn s) (dSgn t) = true := by
  unfold dSgn
  simp [PySem.W.alike, PySem.W.alikeAll]
theorem sgn_sort {ds : List Sgn} : PySem.W.AllAlike (ds.map dSgn) ∧ PySem.W.Sortable (ds.map dSgn) := by
  refine ⟨fun d hd d' hd' => ?_, .inl fun d hd => ?_⟩
  · obtain ⟨s, _, rfl⟩ := List.mem_map.mp hd
    obtain ⟨t, _, rfl⟩ := List.mem_map.mp hd'
    exact alike_sgn s t
  · obtain ⟨s, _, rfl⟩ := List.mem_map.mp hd
    exact ⟨_, _, rfl⟩
theorem perm_back {α β : Type} {f : α → β} : ∀ {m : List α} {l : List β}, l.Perm (m.map f) → ∃ m' : List α, m'.Perm m ∧ l = m'.map f
  | [], l, h => ⟨[], List.Perm.refl _, h.eq_nil⟩
  | a :: m, l, h => by
    obtain ⟨l1, l2, rfl⟩ := List.append_of_mem (h.mem_iff.mpr (show f a ∈ (a :: m).map f from List.mem_cons_self))
    have h2 : (f a :: (l1 ++ l2)).Perm (f a :: m.map f) := (List.perm_middle (a := f a) (l₁ := l1) (l₂ := l2)).symm.trans h
    obtain ⟨m', pm, e⟩ := perm_back h2.cons_inv
    obtain ⟨m1, m2, rfl, rfl, rfl⟩ := List.map_eq_append_iff.mp e.symm
    exact ⟨m1 ++ a :: m2, List.perm_middle.trans (pm.cons a), by rw [List.map_append, List.map_cons]⟩
theorem dep_sgn (s : Sgn) : (dSgn s).depth ≤ 1 := by
  unfold dSgn
  simp [PyData.depth, PyData.depthAll]
theorem sgn_lt {s t : Sgn} (h : PySem.W.dataLt (dSgn t) (dSgn s) = false) (n : s.1 ≠ t.1) : s.1 < t.1 := by
  refine Nat.lt_of_le_of_ne (Nat.le_of_not_lt fun c => ?_) n
  have e : PySem.W.dataLt (dSgn t) (dSgn s) = true := by
    show PyProof.Rows.lexLt PyProof.Rows.itemOrd (Sum.inl 1 :: (Sum.inl (t.1 : Int) :: _)) (Sum.inl 1 :: (Sum.inl (s.1 : Int) :: _)) = true
    rw [PyProof.Rows.lex_self, PyProof.Rows.lex_diff (O := PyProof.Rows.itemOrd) (fun e => by
      have := Sum.inl.inj e
      omega)]
    show decide ((t.1 : Int) < (s.1 : Int)) = true
    exact decide_eq_true (by omega)
  rw [e] at h
  cases h
theorem ok_one_bar (D : Dfn K mg "_law_one_bar" s__law_one_bar ["well", "wide"]) (z : Z mg) (O_dip : Ok P w K mg base 1 "_law_dip" ["well", "upto"] spDipW) (O_one_sign : Ok P w K mg base 2 "_law_one_sign" ["well", "wide"] spOneSign) : Ok P w K mg base 3 "_law_one_bar" ["well", "wide"] spOneBar := D.ok fun f fd F => by
  refine F.ok sc_law_one_bar (fun vs H Q E h => ?_) (fun cdv A outer s H vs Q E hr h => ?_)
  · obtain ⟨G, l, p, o, k, n, rfl, _⟩ := h
    rfl
  · obtain ⟨G, l, p, o, k, n, rfl, S, wo, hk, hn, hn', q⟩ := h
    refine ⟨_, (pss_cons (ps_set (i := 2) sc_law_one_bar.nd rfl (Or.inl rfl) (pe_o O_one_sign hr (pa_cons (pv 0) (pa_cons (pv 1) pa_nil))))
      (pss_cons (ps_set (i := 3) sc_law_one_bar.nd rfl (Or.inl rfl) (pe_o O_one_sign hr (pa_cons (pv 0) (pa_cons (pv 1) pa_nil))))
      (pss_cons (ps_if (PW.pt (pw_or (pt_cmpR op_eq (pe_ix ix_tup (pv 2) pe_int (fun _ _ => rfl)) (pe_ix ix_tup (pv 3) pe_int (fun _ _ => rfl)) (nomark _)) (pw_or1 (pt_cmpR op_eq (pe_o O_dip (hr.mono (by decide)) (pa_cons (pv 0) (pa_cons pe_int pa_nil))) pe_int (nomark _))))) (pss_one (ps_ret (pe_tup (pa_cons (pv 2) pa_nil)))) pss_nil)
      (pss_one (ps_ret (pe_callTy call_tuple_of (by rfl) z.tuple (by decide +kernel) (pa_cons (pe_callB (cr_sortE (K := K) hr.units) (by rfl) z.sorted (by decide +kernel) (pa_cons (pe_lst (pa_cons (pv 2) (pa_cons (pv 3) pa_nil))) pa_nil)) pa_nil))))))), ?_⟩
    refine ⟨_, rfl, _, rfl, G, l, p, o, k, n, rfl, S, wo, by omega, hn, hn', fun G1 H1 o1 x1 s1 e1 S1 wo1 hs1 a1 => ?_⟩
    refine ⟨_, rfl, _, rfl, G1, l, p, o1, k + 2, n, rfl, S1, wo1, by omega, hn, hn', fun G2 H2 o2 x2 s2 e2 S2 wo2 hs2 a2 => ?_⟩
    have a12 := a1.ex e2
    obtain ⟨t1, rfl, h1⟩ := a12.sgn
    obtain ⟨t2, rfl, h2⟩ := a2.sgn
    refine ⟨_, rfl, t1, _, 0, .int s1.1, rfl, rfl, Evl.st_of (S2.ex _ _ h1), rfl, _, rfl, t2, _, 0, .int s2.1, rfl, rfl, Evl.st_of (S2.ex _ _ h2), rfl, rfl, _, rfl, ?_⟩
    have one : ∀ H3 o3, Has G2 H3 ((p, o3) :: l) → WellO (k + 5) o3 → sizeLine ≥ 1 ∧ ∀ u, H3 u = none → Q (.ref u) (upd H3 u (.tup [.ref t1])) := fun H3 o3 S3 wo3 => by
      refine ⟨sz (by decide), fun u nu => ?_⟩
      have S4 := S3.new (o := .tup [.ref t1]) nu
      refine q _ _ o3 _ [s1] ((e1.trans e2).trans S4.exS) S4.sink wo3 ⟨List.cons_ne_nil _ _, by show 1 ≤ 2; decide, fun s hs => ?_, List.pairwise_singleton _ _⟩ (At.mkT upd_same (.cons (a12.ex S4.exS) .nil))
      rw [List.mem_singleton.mp hs]
      exact hs1
    refine ite2 (fun hc => ?_) (fun hc => ?_)
    · have := one H2 o2 S2 (wo2.up (by omega))
      exact ⟨_, rfl, this.1, this.2⟩
    · refine ⟨_, rfl, p, 6, o2, k + 2 + 2, rfl, S2.get 0 rfl, wo2, by omega, by decide, by decide, fun r o3 hr3 wo3 => ?_⟩
      have S3 : Has G2 _ ((p, o3) :: l) := S2.set 0 rfl
      generalize upd H2 p o3 = H3 at S3
      refine ⟨rfl, _, rfl, ?_⟩
      refine ite2 (fun hc2 => ?_) (fun hc2 => ?_)
      · have := one H3 o3 S3 wo3
        exact ⟨_, rfl, this.1, this.2⟩
      · refine ⟨_, rfl, _, rfl, sz (by show 2 ≤ 100000; decide), fun u nu => ?_⟩
        have S4 := S3.new (o := .lst [.ref t1, .ref t2]) nu
        generalize upd H3 u (.lst [.ref t1, .ref t2]) = H4 at S4
        have as12 : ∀ b ∈ [(V.ref t1, dSgn s1), (V.ref t2, dSgn s2)], At G2 b.1 b.2 := fun b hb => by
          simp only [List.mem_cons, List.not_mem_nil, or_false] at hb
          rcases hb with rfl | rfl
          · exact a12
          · exact a2
        refine ⟨u, [(V.ref t1, dSgn s1), (V.ref t2, dSgn s2)], rfl, Evl.sq_of (S4.get 0 rfl), fun b hb => ((as12 b hb).ex S4.ex).dp, .inl (sgn_sort (ds := [s1, s2])), fun b hb => ?_, fun v nv => ?_⟩
        · simp only [List.mem_cons, List.not_mem_nil, or_false] at hb
          rcases hb with rfl | rfl <;> exact Nat.le_trans (dep_sgn _) (by decide)
        · generalize hL : List.mergeSort [(V.ref t1, dSgn s1), (V.ref t2, dSgn s2)] (PySem.W.dataLe false (·.2)) = L
          have S5 := S4.tail.new (o := .lst (L.map (·.1))) nv
          generalize upd H4 v (.lst (L.map (·.1))) = H5 at S5
          refine ⟨v, _, rfl, .inl ⟨Evl.sq_of (S5.get 0 rfl), fun y ny => ?_⟩⟩
          have S6 := S5.tail.new (o := .tup (L.map (·.1))) ny
          have pm : L.Perm [(V.ref t1, dSgn s1), (V.ref t2, dSgn s2)] := by
            rw [← hL]
            exact List.mergeSort_perm _ _
          obtain ⟨b, hb, hb2⟩ : ∃ b : Bar, L.map (·.2) = b.map dSgn ∧ b.Perm [s1, s2] := by
            obtain ⟨b, hb, e⟩ := perm_back (f := dSgn) (m := [s1, s2]) (pm.map (·.2))
            exact ⟨b, e, hb⟩
          refine q _ _ o3 _ b ((e1.trans e2).trans S6.exS) S6.sink wo3 ⟨?_, ?_, fun s hs => ?_, ?_⟩ (At.mkT upd_same ?_)
          · intro e
            rw [e] at hb2
            cases hb2.length_eq
          · rw [hb2.length_eq]
            show 2 ≤ 2
            decide
          · have := hb2.mem_iff.mp hs
            simp only [List.mem_cons, List.not_mem_nil, or_false] at this
            rcases this with rfl | rfl
            · exact hs1
            · exact hs2
          · have n12 : s1.1 ≠ s2.1 := fun e => hc (decide_eq_true (by rw [e]))
            have pw : L.Pairwise (fun x y => PySem.W.dataLt y.2 x.2 = false) := by
              rw [← hL]
              exact dataLe_pw _
            have pw2 : (b.map dSgn).Pairwise (fun x y => PySem.W.dataLt y x = false) := by
              rw [← hb, List.pairwise_map]
              exact pw
            rw [List.pairwise_map] at pw2
            have ne2 : b.Pairwise (fun s t => s.1 ≠ t.1) := hb2.pairwise_iff (fun h => Ne.symm h) |>.mpr (List.pairwise_cons.mpr ⟨fun t ht => by rw [List.mem_singleton.mp ht]; exact n12, List.pairwise_singleton _ _⟩)
            exact List.Pairwise.imp₂ (fun s t h1 h2 => sgn_lt h1 h2) pw2 ne2
          · rw [← hb]
            exact Ats.map_ fun b hb => (as12 b (pm.mem_iff.mp hb)).ex S6.exS
end
end TW
set_option Elab.async false
set_option linter.all false
set_option maxRecDepth 100000
set_option maxHeartbeats 4000000
namespace TW
open PySem PySem.Spec PyProof.Rows L2
section
variable {P : Program} {w : World} {K : PySem.W.Frag} {mg : Str → Option Value} {base : Heap}
/-! _law_some_bars -/
theorem sc_law_some_bars : FnScope ["well", "wide", "most", "k"] ["well", "wide", "most"] (defScope s__law_some_bars) := ⟨rfl, rfl, rfl, by decide +kernel, rfl, by decide +kernel, by decide +kernel⟩
def spSomeBars : Sp := fun vs H Q _ => ∃ (G : Hp) (l : List (Addr × HO)) (p : Addr) (o : HO) (k n most : Nat), vs = [.ref p, .int n, .int most] ∧ Has G H ((p, o) :: l) ∧ WellO k o ∧ k < 10 ^ 6 ∧ 0 < n ∧ (n : Int) < 2 ^ 200 ∧ most ≤ 100 ∧
  ∀ (G' H' : Hp) (o' : HO) (x : V) (bs : List Bar), Ex G G' → Has G' H' ((p, o') :: l) → WellO (k + 501) o' → (∀ b ∈ bs, barOk n b) → bs.length ≤ most → At G' x (dBars bs) → Q x H'
theorem ok_some_bars (D : Dfn K mg "_law_some_bars" s__law_some_bars ["well", "wide", "most"]) (z : Z mg) (O_dip : Ok P w K mg base 1 "_law_dip" ["well", "upto"] spDipW) (O_one_bar : Ok P w K mg base 3 "_law_one_bar" ["well", "wide"] spOneBar) : Ok P w K mg base 4 "_law_some_bars" ["well", "wide", "most"] spSomeBars := D.ok fun f fd F => by
  refine F.ok sc_law_some_bars (fun vs H Q E h => ?_) (fun cdv A outer s H vs Q E hr h => ?_)
  · obtain ⟨G, l, p, o, k, n, most, rfl, _⟩ := h
    rfl
  · obtain ⟨G, l, p, o, k, n, most, rfl, S, wo, hk, hn, hn', hm, q⟩ := h
    refine ⟨_, (pss_one (ps_ret (pe_lc (own := [("k", 3)]) (g := gName 3) rfl sc_law_some_bars.nd (pi_range1 (by rfl) z.range (pa_cons (pe_o O_dip (hr.mono (by decide)) (pa_cons (pv 0) (pa_cons (pe_op op_add (pv 2) pe_int) pa_nil))) pa_nil)) (blkOk_by (N := ["well", "wide", "most", "k"]) (own := [("k", 3)]) (sc := defScope s__law_some_bars) (by decide +kernel)) (fun _ _ _ _ _ => pg_name (i := 3) sc_law_some_bars.nd rfl (Or.inl rfl)) (fun _ _ _ _ _ => pts_nil) (fun _ _ _ _ _ => (pe_o O_one_bar hr (pa_cons (pv 0) (pa_cons (pv 1) pa_nil))))))), ?_⟩
    refine ⟨_, rfl, _, rfl, _, _, rfl, rfl, p, most + 1, o, k, rfl, S.get 0 rfl, wo, by omega, by omega, by omega, fun r o1 hr1 wo1 => ?_⟩
    have S1 : Has G _ ((p, o1) :: l) := S.set 0 rfl
    generalize upd H p o1 = H1 at S1
    refine ⟨r, rfl, by omega, by omega, fun Dl hD => ?_⟩
    rw [show ((r : Nat) : Int).toNat = r by omega]
    refine lc_range (lo := 0) (n := r) (fun i H' => ∃ (G' : Hp) (o' : HO) (xs : List V) (bs : List Bar), Ex G G' ∧ Has G' H' ((p, o') :: (Dl, .lst xs) :: l) ∧ WellO (k + 1 + 5 * i) o' ∧ bs.length = i ∧ (∀ b ∈ bs, barOk n b) ∧ Ats G' xs (bs.map dBar)) ⟨G, o1, [], [], Evl.Ex.refl G, (S1.new hD).swap, wo1, rfl, fun b hb => absurd hb List.not_mem_nil, .nil⟩ ?_ ?_
    · rintro i H2 hi ⟨G2, o2, xs, bs, e2, S2, wo2, hl, hb, ha⟩
      refine ⟨rfl, _, rfl, _, rfl, G2, (Dl, .lst xs) :: l, p, o2, k + 1 + 5 * i, n, rfl, S2, wo2, by omega, hn, hn', fun G3 H3 o3 x b e3 S3 wo3 hb3 ax => ?_⟩
      have lx : xs.length = i := by rw [ha.1, List.length_map, hl]
      refine ⟨xs, S3.get 1 rfl, szl (by omega), G3, o3, xs ++ [x], bs ++ [b], e2.trans e3, S3.set 1 rfl, wo3, by rw [List.length_append, hl]; rfl, fun c hc => ?_, ?_⟩
      · rcases List.mem_append.mp hc with h | h
        · exact hb c h
        · rw [List.mem_singleton.mp h]
          exact hb3
      · rw [List.map_append]
        exact (ha.ex e3).snoc ax
    · rintro H2 ⟨G2, o2, xs, bs, e2, S2, wo2, hl, hb, ha⟩
      have S3 := S2.swap
      exact q _ _ o2 _ bs (e2.trans S3.exS) S3.sink (wo2.up (by omega)) hb (by omega) (At.mkL upd_same (ha.ex S3.exS))
/-! _law_width -/
theorem sc_law_width : FnScope ["well"] ["well"] (defScope s__law_width) := ⟨rfl, rfl, rfl, by decide +kernel, rfl, by decide +kernel, by decide +kernel⟩
def spWidth : Sp := fun vs H Q _ => ∃ (G : Hp) (l : List (Addr × HO)) (p : Addr) (o : HO) (k : Nat), vs = [.ref p] ∧ Has G H ((p, o) :: l) ∧ WellO k o ∧ k < 10 ^ 8 ∧
  ∀ (H' : Hp) (o' : HO) (n : Nat), Has G H' ((p, o') :: l) → WellO (k + 1) o' → 0 < n → n ≤ 6 → Q (.int n) H'
theorem ok_width (D : Dfn K mg "_law_width" s__law_width ["well"]) (O_dip : Ok P w K mg base 1 "_law_dip" ["well", "upto"] spDipW) : Ok P w K mg base 2 "_law_width" ["well"] spWidth := D.ok fun f fd F => by
  refine F.ok sc_law_width (fun vs H Q E h => ?_) (fun cdv A outer s H vs Q E hr h => ?_)
  · obtain ⟨G, l, p, o, k, rfl, _⟩ := h
    rfl
  · obtain ⟨G, l, p, o, k, rfl, S, wo, hk, q⟩ := h
    refine ⟨_, (pss_one (ps_ret (pe_ix ix_list (pe_lst (pa_cons pe_int (pa_cons pe_int (pa_cons pe_int (pa_cons pe_int (pa_cons pe_int (pa_cons pe_int (pa_cons pe_int (pa_cons pe_int (pa_cons pe_int (pa_cons pe_int (pa_cons pe_int (pa_cons pe_int pa_nil))))))))))))) (pe_o O_dip hr (pa_cons (pv 0) (pa_cons pe_int pa_nil))) (fun _ _ => rfl)))), ?_⟩
    refine ⟨sz (by show 12 ≤ 100000; decide), fun t nt => ?_⟩
    generalize hL : ([V.int 1, V.int 2, V.int 2, V.int 3, V.int 3, V.int 3, V.int 4, V.int 4, V.int 4, V.int 5, V.int 5, V.int 6] : List V) = L
    have S1 := S.new (o := .lst L) nt
    generalize upd H t (.lst L) = H1 at S1
    refine ⟨_, rfl, p, 12, o, k, rfl, S1.get 1 rfl, wo, by omega, by decide, by decide, fun r o1 hr1 wo1 => ?_⟩
    have S2 : Has G _ ((t, .lst L) :: (p, o1) :: l) := S1.set 1 rfl
    obtain ⟨n, hat, h1, h2⟩ : ∃ n : Nat, atI L (r : Int) = some (.int n) ∧ 0 < n ∧ n ≤ 6 := by
      rw [← hL]
      have : r = 0 ∨ r = 1 ∨ r = 2 ∨ r = 3 ∨ r = 4 ∨ r = 5 ∨ r = 6 ∨ r = 7 ∨ r = 8 ∨ r = 9 ∨ r = 10 ∨ r = 11 := by omega
      rcases this with rfl | rfl | rfl | rfl | rfl | rfl | rfl | rfl | rfl | rfl | rfl | rfl
      · exact ⟨1, rfl, by decide, by decide⟩
      · exact ⟨2, rfl, by decide, by decide⟩
      · exact ⟨2, rfl, by decide, by decide⟩
      · exact ⟨3, rfl, by decide, by decide⟩
      · exact ⟨3, rfl, by decide, by decide⟩
      · exact ⟨3, rfl, by decide, by decide⟩
      · exact ⟨4, rfl, by decide, by decide⟩
      · exact ⟨4, rfl, by decide, by decide⟩
      · exact ⟨4, rfl, by decide, by decide⟩
      · exact ⟨5, rfl, by decide, by decide⟩
      · exact ⟨5, rfl, by decide, by decide⟩
      · exact ⟨6, rfl, by decide, by decide⟩
    exact ⟨t, _, r, _, rfl, rfl, Evl.sq_of (S2.get 0 rfl), hat, q _ o1 n S2.tail wo1 h1 h2⟩
/-! _law_lot_of -/
theorem sc_law_lot_of : FnScope ["mask", "wide", "k"] ["mask", "wide"] (defScope s__law_lot_of) := ⟨rfl, rfl, rfl, by decide +kernel, rfl, by decide +kernel, by decide +kernel⟩
def spLotOf : Sp := fun vs H Q _ => ∃ (m : Int) (n : Nat), vs = [.int m, .int n] ∧ n ≤ 1000 ∧ ∀ (t : Addr) (H' : Hp), H t = none → Ex H H' → H' t = some (.tup ((lotOf m n).map V.int)) → Q (.ref t) H'
theorem lot_up (m : Int) (n : Nat) : lotOf m (n + 1) = lotOf m n ++ (if bitB m n = true then [(n : Int)] else []) := by
  unfold lotOf
  rw [List.range_succ, List.filter_append, List.map_append]
  cases h : bitB m n with
  | true => rw [List.filter_cons, if_pos h]; rfl
  | false => rw [List.filter_cons, if_neg (by rw [h]; decide)]; rfl
theorem lot_len (m : Int) (n : Nat) : (lotOf m n).length ≤ n := by
  unfold lotOf
  rw [List.length_map]
  exact Nat.le_trans (List.length_filter_le _ _) (by rw [List.length_range]; exact Nat.le_refl _)
theorem bit_eq (m : Int) (k : Nat) : decide (V.int (m / 2 ^ k % 2 ^ 1) = V.int 1) = bitB m k := by
  unfold bitB
  rw [Int.pow_one]
  by_cases h : m / 2 ^ k % 2 = 1
  · rw [h]
    rfl
  · rw [decide_eq_false h, decide_eq_false]
    intro e
    exact h (V.int.inj e)
theorem ok_lot_of (D : Dfn K mg "_law_lot_of" s__law_lot_of ["mask", "wide"]) (z : Z mg) : Ok P w K mg base 1 "_law_lot_of" ["mask", "wide"] spLotOf := D.ok fun f fd F => by
  refine F.ok sc_law_lot_of (fun vs H Q E h => ?_) (fun cdv A outer s H vs Q E hr h => ?_)
  · obtain ⟨m, n, rfl, _⟩ := h
    rfl
  · obtain ⟨m, n, rfl, hn, q⟩ := h
    refine ⟨_, (pss_one (ps_ret (pe_callTy call_tuple_of (by rfl) z.tuple (by decide +kernel) (pa_cons (pe_lc (own := [("k", 2)]) (g := gName 2) rfl sc_law_lot_of.nd (pi_range1 (by rfl) z.range (pa_cons (pv 1) pa_nil)) (blkOk_by (N := ["mask", "wide", "k"]) (own := [("k", 2)]) (sc := defScope s__law_lot_of) (by decide +kernel)) (fun _ _ _ _ _ => pg_name (i := 2) sc_law_lot_of.nd rfl (Or.inl rfl)) (fun _ _ _ _ _ => pts_one (pt_cmpR op_eq (pe_op op_andM (pe_op op_shrN (pv 0) (pv 2)) pe_int) pe_int (nomark _))) (fun _ _ _ _ _ => (pv 2))) pa_nil)))), ?_⟩
    refine ⟨_, rfl, n, rfl, by omega, by omega, fun Dl hD => ?_⟩
    rw [show ((n : Nat) : Int).toNat = n by omega]
    refine lc_range (lo := 0) (n := n) (fun i H' => Ex H H' ∧ H' Dl = some (.lst ((lotOf m i).map V.int))) ⟨Evl.Ex.new hD, by rw [upd_same]; rfl⟩ ?_ ?_
    · rintro i H1 hi ⟨e1, h1⟩
      have ez : (0 : Int) + (i : Int) = ((i : Nat) : Int) := Int.zero_add _
      rw [ez]
      refine ⟨rfl, _, rfl, _, rfl, m, i, rfl, rfl, _, 1, rfl, rfl, rfl, _, rfl, ?_⟩
      have goal : ∀ b, bitB m i = b → (if b = true then tVar 2 (List.set (wipe (L2.start ["mask", "wide", "k"] [V.int m, V.int n]) [2]) 2 (some (V.int (i : Int)))) H1 fun y H4 => ∃ acc, H4 Dl = some (.lst acc) ∧ acc.length < sizeLine ∧ (Ex H (upd H4 Dl (.lst (acc ++ [y]))) ∧ (upd H4 Dl (.lst (acc ++ [y]))) Dl = some (.lst ((lotOf m (i + 1)).map V.int))) else (Ex H H1 ∧ H1 Dl = some (.lst ((lotOf m (i + 1)).map V.int)))) := fun b hb => by
        cases b with
        | true =>
          refine ⟨_, rfl, _, h1, szl (by rw [List.length_map]; have := lot_len m i; omega), Evl.Ex.mut e1 hD, ?_⟩
          rw [upd_same, lot_up, if_pos hb, List.map_append]
          rfl
        | false =>
          refine ⟨e1, ?_⟩
          rw [lot_up, if_neg (by rw [hb]; decide), List.append_nil]
          exact h1
      exact goal _ (bit_eq m i).symm
    · rintro H1 ⟨e1, h1⟩
      exact ⟨Dl, _, rfl, .inl ⟨Evl.sq_of h1, fun t nt => q t _ (Evl.fresh_back e1 nt) (e1.trans (Evl.Ex.new nt)) upd_same⟩⟩
def spMixed (K : PySem.W.Frag) : Sp := fun vs H Q _ => ∃ (G : Hp) (l : List (Addr × HO)) (p a : Addr) (o : HO) (k : Nat) (xs : List V), vs = [.ref p, .ref a] ∧ Has G H ((p, o) :: l) ∧ WellO k o ∧ k < 10 ^ 7 ∧ SqL K H a xs ∧ a ≠ p ∧ xs.length ≤ 1000 ∧
  ∀ (H' : Hp) (o' : HO) (t : Addr) (ys : List V), Has G H' ((t, .lst ys) :: (p, o') :: l) → WellO (k + 1000) o' → ys.Perm xs → Q (.ref t) H'
theorem perm_erase {α : Type} : ∀ {l : List α} {i : Nat} {x : α}, l[i]? = some x → (x :: l.eraseIdx i).Perm l
  | [], _, _, h => by cases h
  | y :: l, 0, x, h => by
    cases h
    exact List.Perm.refl _
  | y :: l, i + 1, x, h => (List.Perm.swap _ _ _).trans ((perm_erase (l := l) (i := i) h).cons y)
end
end TW
set_option Elab.async false
set_option linter.all false
set_option maxRecDepth 100000
set_option maxHeartbeats 4000000
namespace TW
open PySem PySem.Spec PyProof.Rows L2
theorem lay_ints : ∀ ns : List Int, PyData.canLayAll0 (ns.map .int) = true
  | [] => rfl
  | n :: ns => by
    show (PyData.canLay0 (.int n) && PyData.canLayAll0 (ns.map .int)) = true
    rw [lay_ints ns]
    rfl
theorem shaped_ints (ns : List Int) : SeqAt.shaped (.list (ns.map .int)) = true := by
  unfold SeqAt.shaped
  rw [Bool.and_eq_true, decide_eq_true_eq]
  refine ⟨lay_ints ns, ?_⟩
  have := depth_tupD ns
  unfold tupD at this
  have e : (PyData.list (ns.map .int)).depth = (PyData.tuple (ns.map .int)).depth := by simp [PyData.depth]
  rw [e]
  omega
theorem eqv_nil (ns : List Int) : PyData.eqv (.list (ns.map .int)) (.list []) = decide (ns = []) := by
  cases ns with
  | nil => rfl
  | cons n ns => simp [PyData.eqv, PyData.eqvAll]
def masksOk (n : Nat) (ms : List Int) : Prop := Up ms ∧ ms ≠ [] ∧ ∀ m ∈ ms, 0 ≤ m ∧ m < 2 ^ n
section
variable {P : Program} {w : World} {K : PySem.W.Frag} {mg : Str → Option Value} {base : Heap}
theorem sc_law_some_masks : FnScope ["well", "wide", "manner", "row", "k", "bars", "spare", "mask"] ["well", "wide"] (defScope s__law_some_masks) := ⟨rfl, rfl, rfl, by decide +kernel, rfl, by decide +kernel, by decide +kernel⟩
def spSomeMasks : Sp := fun vs H Q _ => ∃ (G : Hp) (l : List (Addr × HO)) (p : Addr) (o : HO) (k n : Nat), vs = [.ref p, .int n] ∧ Has G H ((p, o) :: l) ∧ WellO k o ∧ k < 10 ^ 5 ∧ 0 < n ∧ n ≤ 6 ∧
  ∀ (G' H' : Hp) (o' : HO) (t : Addr) (ms : List Int), Ex G G' → Has G' H' ((t, .lst (ms.map V.int)) :: (p, o') :: l) → WellO (k + 1000) o' → masksOk n ms → Q (.ref t) H'
theorem sort_up {ns ns' : List Int} (pm : ns'.Perm ns) (h : ns'.Pairwise (· ≤ ·)) (nd : ns.Nodup) : Up ns' := up_of_le h (pm.nodup_iff.mpr nd)
def rangeI (n : Nat) : List Int := (List.range n).map fun k : Nat => (k : Int)
theorem rangeI_up (n : Nat) : Up (rangeI n) := by
  unfold rangeI Up
  rw [List.pairwise_map]
  exact List.pairwise_lt_range.imp fun h => by omega
theorem rangeI_mem {n : Nat} {x : Int} : x ∈ rangeI n ↔ 0 ≤ x ∧ x < n := by
  unfold rangeI
  rw [List.mem_map]
  constructor
  · rintro ⟨k, hk, rfl⟩
    have := List.mem_range.mp hk
    omega
  · rintro ⟨h1, h2⟩
    exact ⟨x.toNat, List.mem_range.mpr (by omega), by omega⟩
theorem rangeI_get {n i : Nat} (h : i < n) : (rangeI n)[i]? = some (i : Int) := by
  unfold rangeI
  rw [List.getElem?_map, List.getElem?_range h]
  rfl
theorem pow_small {n : Nat} (h0 : 0 < n) (h : n ≤ 6) : ∃ b : Nat, (1 : Int) * 2 ^ n = (b : Int) ∧ b = 2 ^ n ∧ 0 < b ∧ b ≤ 64 := by
  have : n = 1 ∨ n = 2 ∨ n = 3 ∨ n = 4 ∨ n = 5 ∨ n = 6 := by omega
  rcases this with rfl | rfl | rfl | rfl | rfl | rfl
  · exact ⟨2, rfl, rfl, by decide, by decide⟩
  · exact ⟨4, rfl, rfl, by decide, by decide⟩
  · exact ⟨8, rfl, rfl, by decide, by decide⟩
  · exact ⟨16, rfl, rfl, by decide, by decide⟩
  · exact ⟨32, rfl, rfl, by decide, by decide⟩
  · exact ⟨64, rfl, rfl, by decide, by decide⟩
theorem shl_ok {n : Nat} (h : n ≤ 6) : CShl 1 (n : Int) := ⟨by omega, by
  have : Builtin.Int.intBits 1 = 1 := by decide +kernel
  rw [this]
  omega⟩
theorem masks_tail {n : Nat} {ns ns' : List Int} (pm : ns'.Perm ns) (h : ns'.Pairwise (· ≤ ·)) (nd : ns.Nodup) (ne : ns ≠ []) (hb : ∀ m ∈ ns, 0 ≤ m ∧ m < 2 ^ n) : masksOk n ns' :=
  ⟨sort_up pm h nd, fun e => ne (by rw [e] at pm; exact pm.symm.eq_nil), fun m hm => hb m (pm.mem_iff.mp hm)⟩
theorem PE.imp {X : Cx} {e : Expr} {t t' : TE} (h : PE X e t) (i : ∀ σ H Q, t' σ H Q → t σ H Q) : PE X e t' := ⟨fun pins s σ H Q I q => h.run pins s σ H Q I (i σ H Q q)⟩
theorem PT.imp {X : Cx} {e : Expr} {t t' : TT} (h : PT X e t) (i : ∀ σ H Q, t' σ H Q → t σ H Q) : PT X e t' := ⟨fun pins s σ H Q I q => h.run pins s σ H Q I (i σ H Q q)⟩
/-- 20 or 7 -/
def tMost : TE := fun σ H Q => ∃ i j : Int, σ[2]? = some (some (.int i)) ∧ σ[1]? = some (some (.int j)) ∧ ∀ d : Nat, 0 < d → d ≤ 20 → Q (.int d) H
/-- row == [] or manner == 4 and spare not in row -/
def tTest7 : TT := fun σ H Q => ∃ (i j : Int) (a : Addr) (ns : List Int), σ[2]? = some (some (.int i)) ∧ σ[6]? = some (some (.int j)) ∧ σ[3]? = some (some (.ref a)) ∧ H a = some (.lst (ns.map V.int)) ∧
  ∀ c H', Ex H H' → (c = true → j ∉ ns) → (c = false → ns ≠ []) → Q c H'
/-- manner > 3 and len(row) > 1 and a dip -/
def tTest8 : TT := fun σ H Q => ∃ (i : Int) (a p : Addr) (ns : List Int) (G : Hp) (l : List (Addr × HO)) (o : HO) (k : Nat), σ[2]? = some (some (.int i)) ∧ σ[3]? = some (some (.ref a)) ∧ σ[0]? = some (some (.ref p)) ∧ Has G H ((a, .lst (ns.map V.int)) :: (p, o) :: l) ∧ WellO k o ∧ k < 10 ^ 6 ∧
  ∀ c H' o', Has G H' ((a, .lst (ns.map V.int)) :: (p, o') :: l) → WellO (k + 1) o' → (c = true → 1 < ns.length) → Q c H'
theorem erase_map {α β : Type} (f : α → β) : ∀ (l : List α) (r : Nat), (l.map f).eraseIdx r = (l.eraseIdx r).map f
  | [], _ => rfl
  | _ :: _, 0 => rfl
  | x :: l, r + 1 => congrArg (f x :: ·) (erase_map f l r)
theorem PS.imp {X : Cx} {e : Stmt} {t t' : TS} (h : PS X e t) (i : ∀ D σ H, t' D σ H → t D σ H) : PS X e t' := ⟨fun pins s σ H D I q => h.run pins s σ H D I (i D σ H q)⟩
def tStmt7 : TS := fun D σ H => ∃ (i j : Int) (a : Addr) (ns : List Int) (G : Hp) (l : List (Addr × HO)), σ[2]? = some (some (.int i)) ∧ σ[6]? = some (some (.int j)) ∧ σ[3]? = some (some (.ref a)) ∧ Has G H ((a, .lst (ns.map V.int)) :: l) ∧ ns.length ≤ 1000 ∧
  ∀ H' ns', Has G H' ((a, .lst (ns'.map V.int)) :: l) → ns' ≠ [] → (ns' = ns ∨ (ns' = ns ++ [j] ∧ j ∉ ns)) → D.nx σ H'
def tStmt8 : TS := fun D σ H => ∃ (i : Int) (a p : Addr) (ns : List Int) (G : Hp) (l : List (Addr × HO)) (o : HO) (k : Nat), σ[2]? = some (some (.int i)) ∧ σ[3]? = some (some (.ref a)) ∧ σ[0]? = some (some (.ref p)) ∧ Has G H ((a, .lst (ns.map V.int)) :: (p, o) :: l) ∧ WellO k o ∧ k < 10 ^ 6 ∧ ns.length ≤ 1000 ∧
  ∀ H' o' ns', Has G H' ((a, .lst (ns'.map V.int)) :: (p, o') :: l) → WellO (k + 2) o' → (ns' = ns ∨ (1 < ns.length ∧ ∃ r, ns' = ns.eraseIdx r)) → D.nx σ H'
theorem ok_some_masks (D : Dfn K mg "_law_some_masks" s__law_some_masks ["well", "wide"]) (z : Z mg) (O_dip : Ok P w K mg base 1 "_law_dip" ["well", "upto"] spDipW) (O_kept : Ok P w K mg base 2 "_law_all_kept" ["mask", "bars"] spKept) (O_some_bars : Ok P w K mg base 4 "_law_some_bars" ["well", "wide", "most"] spSomeBars) :
    Ok P w K mg base 5 "_law_some_masks" ["well", "wide"] spSomeMasks := D.ok fun f fd F => by
  refine F.ok sc_law_some_masks (fun vs H Q E h => ?_) (fun cdv A outer s H vs Q E hr h => ?_)
  · obtain ⟨G, l, p, o, k, n, rfl, _⟩ := h
    rfl
  · obtain ⟨G, l, p, o, k, n, rfl, S, wo, hk, hn, hn', q⟩ := h
    have imp1 : ∀ (σ : L2.St) (H : Hp) (Q : VK), tMost σ H Q → tIf (tAnd (tTest (tOp rEq (tVar 2) (tC (.int 0)))) (tTest (tOp (rI0 fun i j => .bl (decide (i > j))) (tVar 1) (tC (.int 4))))) (tC (.int 20)) (tC (.int 7)) σ H Q := by
      rintro σ H Q ⟨i, j, h2, h1, q⟩
      refine ⟨_, h2, rfl, _, rfl, ?_⟩
      refine ite2 (fun _ => ⟨_, h1, _, _, rfl, rfl, _, rfl, ite2 (fun _ => q 20 (by decide) (by decide)) (fun _ => q 7 (by decide) (by decide))⟩) (fun _ => iteF (q 7 (by decide) (by decide)))
    have imp2 : ∀ (σ : L2.St) (H : Hp) (Q : Bool → Hp → Prop), tTest7 σ H Q → tOr (tTest (tOp (rEqD K) (tVar 3) (tLst tNil))) (tAnd (tTest (tOp rEq (tVar 2) (tC (.int 4)))) (tTest (tOp (rIn K true) (tVar 6) (tVar 3)))) σ H Q := by
      rintro σ H Q ⟨i, j, a, ns, h2, h6, h3, ha, q⟩
      refine ⟨_, h3, sz (by show 0 ≤ 100000; decide), fun e ne => ?_⟩
      have e1 : Ex H (upd H e (.lst [])) := Evl.Ex.new ne
      refine ⟨.list (ns.map .int), .list [], .lst (Evl.sq_of (e1 _ _ ha)) (dpAll_ints ns), .lst (Evl.sq_of upd_same) .nil, shaped_ints ns, rfl, _, rfl, ?_⟩
      rw [eqv_nil]
      refine ite2 (fun hc => ?_) (fun hc => ?_)
      · have hn : ns = [] := of_decide_eq_true hc
        exact q true _ e1 (fun _ => by rw [hn]; exact List.not_mem_nil) (fun h => by cases h)
      · have hn : ns ≠ [] := fun h => hc (decide_eq_true h)
        refine ⟨_, h2, rfl, _, rfl, ?_⟩
        refine ite2 (fun _ => ?_) (fun _ => q false _ e1 (fun h => by cases h) fun _ => hn)
        refine ⟨_, h6, _, h3, a, ns.map V.int, rfl, .inl (Evl.sq_of (e1 _ _ ha)), rfl, flat_ints _, _, rfl, ?_⟩
        rw [inV_int]
        refine q _ _ e1 (fun h => ?_) fun _ => hn
        intro hj
        rw [decide_eq_true hj] at h
        cases h
    have imp3 : ∀ (σ : L2.St) (H : Hp) (Q : Bool → Hp → Prop), tTest8 σ H Q → tAnd (tTest (tOp (rI0 fun i j => .bl (decide (i > j))) (tVar 2) (tC (.int 3)))) (tAnd (tTest (tOp (rI0 fun i j => .bl (decide (i > j))) (tCB (rLenOf K) (tCons (tVar 3) tNil)) (tC (.int 1)))) (tTest (tOp rEq (tCall spDipW [] E0 (tCons (tVar 0) (tCons (tC (.int 2)) tNil))) (tC (.int 0))))) σ H Q := by
      rintro σ H Q ⟨i, a, p, ns, G, l, o, k, h2, h3, h0, S, wo, hk, q⟩
      refine ⟨_, h2, _, _, rfl, rfl, _, rfl, ?_⟩
      refine ite2 (fun _ => ?_) (fun _ => q false H o S (wo.up (by omega)) fun h => by cases h)
      refine ⟨_, h3, a, _, rfl, .inl (Evl.sq_of (S.get 0 rfl)), _, _, rfl, rfl, _, rfl, ?_⟩
      refine ite2 (fun hc => ?_) (fun _ => q false H o S (wo.up (by omega)) fun h => by cases h)
      have hl : 1 < ns.length := by
        have := of_decide_eq_true hc
        rw [List.length_map] at this
        omega
      refine ⟨_, h0, p, 2, o, k, rfl, S.get 1 rfl, wo, by omega, by decide, by decide, fun r o1 _ wo1 => ?_⟩
      exact ⟨rfl, _, rfl, q _ _ o1 (S.set 1 rfl) wo1 fun _ => hl⟩
    refine ⟨_, (pss_cons (ps_set (i := 2) sc_law_some_masks.nd rfl (Or.inl rfl) (pe_o O_dip (hr.mono (by decide)) (pa_cons (pv 0) (pa_cons pe_int pa_nil))))
      (pss_cons (ps_set (i := 3) sc_law_some_masks.nd rfl (Or.inl rfl) (pe_lst pa_nil))
      (pss_cons (ps_if (pt_cmpR op_lt (pv 2) pe_int (nomark _)) (pss_cons (ps_for PassesOwn.never rfl (pi_range1 (by rfl) z.range (pa_cons (pe_op op_add pe_int (pe_o O_dip (hr.mono (by decide)) (pa_cons (pv 0) (pa_cons (PE.imp (t' := tMost) (pe_ifExp (PW.pt (pw_and (pt_cmpR op_eq (pv 2) pe_int (nomark _)) (pw_and1 (pt_cmpR op_gt (pv 1) pe_int (nomark _))))) pe_int pe_int) imp1) pa_nil)))) pa_nil)) (pg_name (i := 4) sc_law_some_masks.nd rfl (Or.inl rfl))
      (pss_one (ps_expr (pe_bm PySem.F.plainAttrs_list PySem.F.slot_list_append PySem.F.type_list_append mt_append (pv 3) (pa_cons (pe_o O_dip (hr.mono (by decide)) (pa_cons (pv 0) (pa_cons (pe_op op_shlN pe_int (pv 1)) pa_nil))) pa_nil)))))
      (pss_one (ps_ret (pe_callB (cr_sortedSetK (w := w) rfl) (by rfl) z.sorted (by decide +kernel) (pa_cons (pe_callTy (cr_setK (K := K) (w := w) rfl) (by rfl) z.set (by decide +kernel) (pa_cons (pv 3) pa_nil)) pa_nil))))) pss_nil)
      (pss_cons (ps_set (i := 5) sc_law_some_masks.nd rfl (Or.inr rfl) (pe_o O_some_bars hr (pa_cons (pv 0) (pa_cons (pv 1) (pa_cons (pe_ix ix_list (pe_lst (pa_cons pe_int (pa_cons pe_int (pa_cons pe_int (pa_cons pe_int (pa_cons pe_int (pa_cons pe_int pa_nil))))))) (pv 2) (fun _ _ => rfl)) pa_nil)))))
      (pss_cons (ps_setLc (i := 3) (own := [("mask", 7)]) (g := gName 7) rfl sc_law_some_masks.nd rfl rfl (sw_true rfl rfl rfl (by decide +kernel)) (pi_range1 (by rfl) z.range (pa_cons (pe_op op_shlN pe_int (pv 1)) pa_nil)) (blkOk_by (N := ["well", "wide", "manner", "row", "k", "bars", "spare", "mask"]) (own := [("mask", 7)]) (sc := defScope s__law_some_masks) (by decide +kernel)) (fun _ _ _ _ _ => pg_name (i := 7) sc_law_some_masks.nd rfl (Or.inl rfl)) (fun _ _ _ _ _ => pts_one (pt_val (pe_o O_kept (hr.mono (by decide)) (pa_cons (pv 7) (pa_cons (pv 5) pa_nil))))) (fun _ _ _ _ _ => (pv 7)))
      (pss_cons (ps_set (i := 6) sc_law_some_masks.nd rfl (Or.inl rfl) (pe_o O_dip (hr.mono (by decide)) (pa_cons (pv 0) (pa_cons (pe_op op_shlN pe_int (pv 1)) pa_nil))))
      (pss_cons (PS.imp (t' := tStmt7) (ps_if (PT.imp (t' := tTest7) (PW.pt (pw_or (pt_cmpR (op_eqD hr.units) (pv 3) (pe_lst pa_nil) (nomark _)) (pw_or1 (PW.pt (pw_and (pt_cmpR op_eq (pv 2) pe_int (nomark _)) (pw_and1 (pt_cmpR (op_notInK (K := K)) (pv 6) (pv 3) (by rfl)))))))) imp2) (pss_one (ps_expr (pe_bm PySem.F.plainAttrs_list PySem.F.slot_list_append PySem.F.type_list_append mt_append (pv 3) (pa_cons (pv 6) pa_nil)))) pss_nil) (fun D σ H h => by
        obtain ⟨i, j, a, ns, G, l, h2, h6, h3, S, hz, q⟩ := h
        refine ⟨i, j, a, ns, h2, h6, h3, S.get 0 rfl, fun c H' e hc1 hc0 => ?_⟩
        have S' := S.go e
        cases c with
        | false => exact q H' ns S' (hc0 rfl) (.inl rfl)
        | true =>
          refine ⟨_, h3, .inl ⟨rfl, _, Evl.sq_of (S'.get 0 rfl)⟩, _, h6, a, _, _, rfl, rfl, S'.get 0 rfl, szl (by rw [List.length_map]; omega), ?_⟩
          refine q _ (ns ++ [j]) ?_ (by simp) (.inr ⟨rfl, hc1 rfl⟩)
          rw [List.map_append]
          exact S'.set 0 rfl))
      (pss_cons (PS.imp (t' := tStmt8) (ps_if (PT.imp (t' := tTest8) (PW.pt (pw_and (pt_cmpR op_gt (pv 2) pe_int (nomark _)) (pw_and (pt_cmpR op_gt (pe_callB call_len_seq (by rfl) z.len PySem.boot_len (pa_cons (pv 3) pa_nil)) pe_int (nomark _)) (pw_and1 (pt_cmpR op_eq (pe_o O_dip (hr.mono (by decide)) (pa_cons (pv 0) (pa_cons pe_int pa_nil))) pe_int (nomark _)))))) imp3) (pss_one (ps_expr (pe_bm PySem.F.plainAttrs_list PySem.F.slot_list_pop PySem.F.type_list_pop mt_popAt (pv 3) (pa_cons (pe_o O_dip (hr.mono (by decide)) (pa_cons (pv 0) (pa_cons (pe_callB call_len_seq (by rfl) z.len PySem.boot_len (pa_cons (pv 3) pa_nil)) pa_nil))) pa_nil)))) pss_nil) (fun D σ H h => by
        obtain ⟨i, a, p, ns, G, l, o, k, h2, h3, h0, S, wo, hk, hz, q⟩ := h
        refine ⟨i, a, p, ns, G, l, o, k, h2, h3, h0, S, wo, hk, fun c H' o' S' wo' hc => ?_⟩
        cases c with
        | false => exact q H' o' ns S' (wo'.up (by omega)) (.inl rfl)
        | true =>
          have hl := hc rfl
          refine ⟨_, h3, .inl ⟨rfl, _, Evl.sq_of (S'.get 0 rfl)⟩, _, h0, _, h3, a, _, rfl, .inl (Evl.sq_of (S'.get 0 rfl)), p, (ns.map V.int).length, o', k + 1, rfl, S'.get 1 rfl, wo', by omega, by rw [List.length_map]; omega, by rw [List.length_map]; omega, fun r o2 hr2 wo2 => ?_⟩
          have S2 : Has G _ ((a, .lst (ns.map V.int)) :: (p, o2) :: l) := S'.set 1 rfl
          generalize upd H' p o2 = H2 at S2
          refine ⟨a, _, ((r : Nat) : Int), r, (ns.map V.int)[r], rfl, rfl, S2.get 0 rfl, by omega, by rw [List.length_map] at hr2; omega, (PyProof.Rows.seqIndex_at (by omega) (by omega)).trans (by rw [Int.toNat_natCast]), List.getElem?_eq_getElem hr2, ?_⟩
          refine q _ o2 (ns.eraseIdx r) ?_ wo2 (.inr ⟨hl, r, rfl⟩)
          rw [← erase_map]
          exact S2.set 0 rfl))
      (pss_one (ps_ret (pe_callB cr_sortedI (by rfl) z.sorted (by decide +kernel) (pa_cons (pv 3) pa_nil)))))))))))), ?_⟩
    obtain ⟨b, hb1, hb2, hb0, hb64⟩ := pow_small hn hn'
    have shl := shl_ok hn'
    refine ⟨_, rfl, p, 6, o, k, rfl, S.get 0 rfl, wo, by omega, by decide, by decide, fun man o1 hr1 wo1 => ?_⟩
    have S1 : Has G _ ((p, o1) :: l) := S.set 0 rfl
    generalize upd H p o1 = H1 at S1
    refine ⟨sz (by show 0 ≤ 100000; decide), fun rr nrr => ?_⟩
    have S2 := S1.new (o := .lst []) nrr
    generalize upd H1 rr (.lst []) = H2 at S2
    refine ⟨_, rfl, _, _, rfl, rfl, _, rfl, ?_⟩
    have bm : (b : Int) = 2 ^ n := by rw [← hb1, Int.one_mul]
    refine ite2 (fun hm => ?_) (fun hm => ?_)
    · -- a few drawn ones
      refine ⟨_, rfl, man, n, rfl, rfl, fun d hd0 hd => ?_⟩
      refine ⟨p, d, o1, k + 1, rfl, S2.get 1 rfl, wo1, by omega, hd0, by omega, fun r o2 hr2 wo2 => ?_⟩
      have S3 : Has G _ ((rr, .lst []) :: (p, o2) :: l) := S2.set 1 rfl
      generalize upd H2 p o2 = H3 at S3
      refine ⟨_, _, rfl, rfl, 1 + (r : Int), rfl, by omega, by omega, ?_⟩
      rw [show (1 + (r : Int)).toNat = 1 + r by omega]
      refine for_range (lo := 0) (n := 1 + r) (fun i σ H' => ∃ (v4 v5 v6 v7 : Option V) (o' : HO) (xs : List Int), σ = [some (.ref p), some (.int n), some (.int man), some (.ref rr), v4, v5, v6, v7] ∧ Has G H' ((rr, .lst (xs.map V.int)) :: (p, o') :: l) ∧ WellO (k + 2 + i) o' ∧ xs.length = i ∧ ∀ m ∈ xs, 0 ≤ m ∧ m < 2 ^ n)
        ⟨none, none, none, none, o2, [], rfl, S3, wo2, rfl, fun m hm => absurd hm List.not_mem_nil⟩ ?_ ?_
      · rintro i σ H4 hi ⟨v4, v5, v6, v7, o4, xs, rfl, S4, wo4, lx, bx⟩
        refine ⟨_, rfl, .inl ⟨rfl, _, Evl.sq_of (S4.get 0 rfl)⟩, _, rfl, _, rfl, 1, n, rfl, rfl, shl, ?_⟩
        rw [hb1]
        refine ⟨p, b, o4, k + 2 + i, rfl, S4.get 1 rfl, wo4, by omega, hb0, by omega, fun v o5 hv wo5 => ?_⟩
        have S5 : Has G _ ((rr, .lst (xs.map V.int)) :: (p, o5) :: l) := S4.set 1 rfl
        generalize upd H4 p o5 = H5 at S5
        refine ⟨rr, _, _, rfl, rfl, S5.get 0 rfl, szl (by rw [List.length_map]; omega), some (.int (0 + (i : Int))), v5, v6, v7, o5, xs ++ [(v : Int)], rfl, ?_, wo5, by rw [List.length_append, lx]; rfl, fun m hm => ?_⟩
        · rw [List.map_append]
          exact S5.set 0 rfl
        · rcases List.mem_append.mp hm with h | h
          · exact bx m h
          · rw [List.mem_singleton.mp h, ← bm]
            omega
      · rintro σ H4 ⟨v4, v5, v6, v7, o4, xs, rfl, S4, wo4, lx, bx⟩
        refine ⟨_, rfl, rr, xs, rfl, Evl.sq_of (S4.get 0 rfl), by omega, fun a c na hc => ?_⟩
        have S5 := S4.new (o := SetO w a (fun j => decide (j ∈ xs)) c) na
        generalize upd H4 a (SetO w a (fun j => decide (j ∈ xs)) c) = H5 at S5
        refine ⟨a, _, c, rfl, S5.get 0 rfl, by omega, fun ns t hup hmem hlen nt => ?_⟩
        have S6 := S5.new (o := .lst (ns.map V.int)) nt
        refine q G _ o4 t ns (Evl.Ex.refl G) (S6.drop2.drop2) (wo4.up (by omega)) ⟨hup, ?_, fun m hm => bx m (of_decide_eq_true ((hmem m).mp hm))⟩
        intro e
        have h1 : xs ≠ [] := fun e2 => by rw [e2] at lx; simp at lx; omega
        obtain ⟨x, hx⟩ := List.exists_mem_of_ne_nil xs h1
        have := (hmem x).mpr (decide_eq_true hx)
        rw [e] at this
        exact List.not_mem_nil this
    · -- those that keep drawn rules
      refine ⟨_, rfl, _, rfl, sz (by show 6 ≤ 100000; decide), fun t nt => ?_⟩
      generalize hL : ([V.int 0, V.int 0, V.int 2, V.int 5, V.int 5, V.int 9] : List V) = L
      have S3 := S2.new (o := .lst L) nt
      generalize upd H2 t (.lst L) = H3 at S3
      obtain ⟨most, hat, hmo⟩ : ∃ most : Nat, atI L (man : Int) = some (.int most) ∧ most ≤ 100 := by
        rw [← hL]
        have : man = 0 ∨ man = 1 ∨ man = 2 ∨ man = 3 ∨ man = 4 ∨ man = 5 := by omega
        rcases this with rfl | rfl | rfl | rfl | rfl | rfl
        · exact ⟨0, rfl, by decide⟩
        · exact ⟨0, rfl, by decide⟩
        · exact ⟨2, rfl, by decide⟩
        · exact ⟨5, rfl, by decide⟩
        · exact ⟨5, rfl, by decide⟩
        · exact ⟨9, rfl, by decide⟩
      refine ⟨_, rfl, t, L, man, _, rfl, rfl, Evl.sq_of (S3.get 0 rfl), hat, G, l, p, o1, k + 1, n, most, rfl, S3.tail.tail, wo1, by omega, hn, by omega, hmo, fun G4 H4 o4 x bs e4 S4 wo4 hbs lbs ax => ?_⟩
      have hbars : ∀ b ∈ bs, b.length ≤ 100 := fun b hb => by have := (hbs b hb).2.1; omega
      refine ⟨_, rfl, _, n, rfl, rfl, shl, _, rfl, by rw [hb1]; omega, by rw [hb1]; omega, fun Dl nD => ?_⟩
      rw [hb1, show ((b : Nat) : Int).toNat = b by omega]
      have lF : ∀ i, (((rangeI b).take i).filter fun m => keptB m bs).length ≤ b := fun i => by
        have := filt_len (fun m => keptB m bs) (rangeI b) i
        unfold rangeI at this
        rw [List.length_map, List.length_range] at this
        exact this
      refine lc_range (lo := 0) (n := b) (fun i H' => Has G4 H' ((Dl, .lst ((((rangeI b).take i).filter fun m => keptB m bs).map V.int)) :: (p, o4) :: l)) (S4.new nD) ?_ ?_
      · rintro i H5 hi S5
        have hg := rangeI_get hi
        rw [Int.zero_add]
        refine ⟨rfl, _, rfl, _, rfl, (i : Int), x, bs, rfl, ax.ex S5.ex, hbars, fun H6 e6 => ⟨_, rfl, ?_⟩⟩
        have S6 := S5.go e6
        cases hk : keptB (i : Int) bs with
        | true =>
          refine ⟨_, rfl, _, S6.get 0 rfl, szl (by rw [List.length_map]; have := lF i; omega), ?_⟩
          rw [filt_yes (f := fun m => keptB m bs) hg hk, List.map_append]
          exact S6.set 0 rfl
        | false =>
          rw [filt_no (f := fun m => keptB m bs) hg hk]
          exact S6
      · rintro H5 S5
        have eT : (rangeI b).take b = rangeI b := List.take_of_length_le (by unfold rangeI; rw [List.length_map, List.length_range]; exact Nat.le_refl _)
        have lF5 := lF b
        rw [eT] at S5 lF5
        have bF : ∀ m ∈ (rangeI b).filter fun m => keptB m bs, 0 ≤ m ∧ m < 2 ^ n := fun m hm => by
          have := rangeI_mem.mp ((List.mem_filter.mp hm).1)
          rw [← bm]
          exact this
        have nF : ((rangeI b).filter fun m => keptB m bs).Nodup := (up_nodup (rangeI_up b)).filter _
        generalize ((rangeI b).filter fun m => keptB m bs) = F at S5 bF nF lF5
        refine ⟨_, rfl, _, rfl, _, n, rfl, rfl, shl, ?_⟩
        rw [hb1]
        refine ⟨p, b, o4, k + 1 + 501, rfl, S5.get 1 rfl, wo4, by omega, hb0, by omega, fun sp o6 hsp wo6 => ?_⟩
        have S6 : Has G4 _ ((Dl, .lst (F.map V.int)) :: (p, o6) :: l) := S5.set 1 rfl
        generalize upd H5 p o6 = H6 at S6
        refine ⟨man, sp, Dl, F, G4, _, rfl, rfl, rfl, S6, by omega, fun H7 F7 S7 ne7 hF7 => ?_⟩
        obtain ⟨nF7, bF7, lF7⟩ : F7.Nodup ∧ (∀ m ∈ F7, 0 ≤ m ∧ m < 2 ^ n) ∧ F7.length ≤ 100 := by
          rcases hF7 with rfl | ⟨rfl, hn7⟩
          · exact ⟨nF, bF, by omega⟩
          · refine ⟨List.nodup_append.mpr ⟨nF, List.nodup_cons.mpr ⟨List.not_mem_nil, List.nodup_nil⟩, fun a ha c hc e => ?_⟩, fun m hm => ?_, by rw [List.length_append, List.length_singleton]; omega⟩
            · rw [e, List.mem_singleton.mp hc] at ha
              exact hn7 ha
            · rcases List.mem_append.mp hm with h | h
              · exact bF m h
              · rw [List.mem_singleton.mp h, ← bm]
                omega
        refine ⟨man, Dl, p, F7, G4, l, o6, k + 1 + 501 + 1, rfl, rfl, rfl, S7, wo6, by omega, by omega, fun H8 o8 F8 S8 wo8 hF8 => ?_⟩
        obtain ⟨nF8, bF8, ne8⟩ : F8.Nodup ∧ (∀ m ∈ F8, 0 ≤ m ∧ m < 2 ^ n) ∧ F8 ≠ [] := by
          rcases hF8 with rfl | ⟨hl, r, rfl⟩
          · exact ⟨nF7, bF7, ne7⟩
          · refine ⟨nF7.sublist (List.eraseIdx_sublist _ _), fun m hm => bF7 m ((List.eraseIdx_sublist _ _).subset hm), fun e => ?_⟩
            have h1 := List.length_eraseIdx_le F7 r
            have h2 : F7.length ≤ (F7.eraseIdx r).length + 1 := by
              rw [List.length_eraseIdx]
              split <;> omega
            rw [e] at h2
            simp at h2
            omega
        refine ⟨_, rfl, Dl, F8, rfl, Evl.sq_of (S8.get 0 rfl), fun ns t pm hs nt => ?_⟩
        have S9 := S8.new (o := .lst (ns.map V.int)) nt
        exact q G4 _ o8 t ns e4 S9.drop2 (wo8.up (by omega)) (masks_tail pm hs nF8 ne8 bF8)
end
end TW
set_option Elab.async false
set_option linter.all false
set_option maxRecDepth 100000
set_option maxHeartbeats 4000000
/-! sets of tuples of ints, up to 64 of them -/
namespace TW
open PySem PySem.Spec PyProof.Rows L2
/-- the set at a with the rows L, at most 64 -/
structure SW (P : Program) (w : World) (h : Heap) (a : Addr) (L : List (Addr × List Int)) (es : Array (Int × Value)) (ep : Nat) (t : SetTable) : Prop where
  ob : ∃ o, h.get? a = some o ∧ o.ExactSet ∧ o.data = .set es ep t
  rows : es.toList = rowsOf P w L
  tab : TabOk t (L.map fun p => thash P w p.2)
  nd : (L.map (·.2)).Nodup
  tup : ∀ p ∈ L, IsT P w h p.2 p.1
  plain : t.plain = true
  led : w.params.followText "set-order" = true ∨ t.led = true
  room : L.length * 5 < t.mask * 3
  most : L.length ≤ 64
section
variable {P : Program} {w : World} {A : Around} {E : Value → Shared → Prop} {s : Shared} {a : Addr} {L : List (Addr × List Int)} {es : Array (Int × Value)} {ep : Nat} {t : SetTable}
theorem SW.few (R : SW P w s.heap a L es ep t) (h : L.length < 64) : SetTR P w s.heap a L es ep t := ⟨R.ob, R.rows, R.tab, R.nd, R.tup, R.plain, R.led, R.room, h⟩
theorem SW.of (R : SetTR P w s.heap a L es ep t) : SW P w s.heap a L es ep t := ⟨R.ob, R.rows, R.tab, R.nd, R.tup, R.plain, R.led, R.room, Nat.le_of_lt R.few⟩
theorem SW.size (R : SW P w s.heap a L es ep t) : es.size = L.length := by
  have h := congrArg List.length R.rows
  simpa [rowsOf] using h
/-- the 64th -/
theorem add_last (R : SetTR P w s.heap a L es ep t) {x : Addr} {k : List Int} (hx : IsT P w s.heap k x) (hu : A.units < cLine) (full : L.length = 63) {Q : Bool → Shared → Prop}
    (go : ∀ b g L' es' ep' t', Heap.SameBut a s.heap g → SW P w g a L' es' ep' t' → (k ∈ L.map (·.2) → L' = L) → (k ∉ L.map (·.2) → L'.Perm ((x, k) :: L)) → Q b { s with heap := g }) :
    wpAny (model P w) A (setAddHashed a (.ref x) (thash P w k)) Q E s := by
  obtain ⟨o, ho, exact_, dat⟩ := R.ob
  have z1 := R.size
  have mask_eq : t.mask = 127 := by
    have := R.room
    rcases R.tab.mok with e | e | e <;> omega
  unfold setAddHashed
  rw [show (100000 : Nat) = Nat.succ 99999 from rfl, setAddHashedIn_succ]
  refine wpAny_holding (wpAny_bind (wpAny_setState_of ho dat R.fits ?_))
  dsimp only
  refine wp_if_neg (by simp [byScan, Value.scannable]) ?_
  try refine wpAny_bind (wpAny_pure ?_)
  refine wpAny_bind (search_at R hx hu (fun there => wpAny_pure (go false s.heap L es ep t (.refl a s.heap) (SW.of R) (fun _ => rfl) fun z => absurd there z)) fun c absent free busy => ?_)
  dsimp only
  refine wpAny_bind (wpAny_setState_of ho dat R.fits ?_)
  dsimp only
  obtain ⟨u1, u2, u3, u4, u5, u6, u7, u8, u9⟩ := R.tab.put free busy
  have plain1 : (t.put (way t.mask (thash P w k) c)).1.plain = true := u6.trans R.plain
  generalize eqp : t.put (way t.mask (thash P w k) c) = tp at u1 u3 u4 u5 u6 u7 u8 u9 plain1 ⊢
  obtain ⟨t1, at_⟩ := tp
  dsimp only at u1 u3 u4 u5 u6 u7 u8 u9 plain1 ⊢
  subst u1
  first
    | refine wp_if_pos plain1 (wpAny_bind (hashBy_tup hx ?_))
    | refine wpAny_bind (wp_if_pos plain1 (hashBy_tup hx ?_))
  simp only [if_true]
  have rows1 : (SetTable.insertAt es (SetTable.below t.place (way t.mask (thash P w k) c)) (thash P w k, Value.ref x)).toList = rowsOf P w (L.take (SetTable.below t.place (way t.mask (thash P w k) c)) ++ (x, k) :: L.drop (SetTable.below t.place (way t.mask (thash P w k) c))) :=
    (SetTable.toList_insertAt _ _ _).trans (by rw [rows_put, R.rows])
  generalize SetTable.below t.place (way t.mask (thash P w k) c) = at_ at u2 u3 rows1 ⊢
  have pm : (L.take at_ ++ (x, k) :: L.drop at_).Perm ((x, k) :: L) := L2.put_perm L at_ (x, k)
  rw [← List.map_take, ← List.map_drop, ← List.map_cons (f := fun p : Addr × List Int => thash P w p.2) (a := (x, k)), ← List.map_append] at u3
  generalize L.take at_ ++ (x, k) :: L.drop at_ = L1 at pm u3 rows1
  have len1 : L1.length = 64 := by rw [pm.length_eq, List.length_cons, full]
  have size1 : (SetTable.insertAt es at_ (thash P w k, Value.ref x)).size = 64 := by
    have h := congrArg List.length rows1
    rw [Array.length_toList] at h
    rw [h]
    simpa [rowsOf] using len1
  generalize SetTable.insertAt es at_ (thash P w k, Value.ref x) = es1 at rows1 size1 ⊢
  refine wpAny_bind (wpAny_storeSet_of ho dat ?_ (by rw [size1, sizeLine_eq]; omega))
  have sb : Heap.SameBut a s.heap (s.heap.update a (Obj.putSet es1 t1)) := Heap.SameBut.update ..
  have ho1 := store_at (es' := es1) (t' := t1) ho dat
  generalize s.heap.update a (Obj.putSet es1 t1) = g at sb ho1 ⊢
  have notFull : ¬ t1.tooFull = true := by
    unfold SetTable.tooFull
    rw [decide_eq_true_eq, u9, List.length_map, u4]
    omega
  first
    | refine wp_if_neg (by simp [notFull]) ?_
    | (refine wpAny_bind (wp_if_neg (by simp [notFull]) (wpAny_pure ?_)))
  refine wpAny_pure (go true g L1 es1 (ep + 1) t1 sb ?_ (fun z => absurd z absent) fun _ => pm)
  refine ⟨⟨_, ho1, ⟨exact_.1, exact_.2.1, exact_.2.2⟩, rfl⟩, rows1, u3, ?_, fun p hp => ?_, plain1, by rw [u5]; exact R.led, by rw [len1, u4]; omega, by omega⟩
  · rw [(pm.map (·.2)).nodup_iff, List.map_cons, List.nodup_cons]
    exact ⟨absent, R.nd⟩
  · rcases List.mem_cons.mp (pm.mem_iff.mp hp) with e | e
    · rw [e]
      exact isT_same hx ho dat sb
    · exact isT_same (R.tup p e) ho dat sb
/-- one more, where there are fewer than 64 -/
theorem add_w (R : SW P w s.heap a L es ep t) {x : Addr} {k : List Int} (hx : IsT P w s.heap k x) (hu : A.units < cLine) (lt : L.length < 64) {Q : Bool → Shared → Prop}
    (go : ∀ b g L' es' ep' t', Heap.SameBut a s.heap g → SW P w g a L' es' ep' t' → (k ∈ L.map (·.2) → L' = L) → (k ∉ L.map (·.2) → L'.Perm ((x, k) :: L)) → Q b { s with heap := g }) :
    wpAny (model P w) A (setAddHashed a (.ref x) (thash P w k)) Q E s := by
  by_cases c : L.length + 1 < 64
  · exact add_at (R.few lt) hx hu c fun b g L' es' ep' t' sb R' c1 c2 => go b g L' es' ep' t' sb (SW.of (s := { s with heap := g }) R') c1 c2
  · exact add_last (R.few lt) hx hu (by omega) go
end
end TW
set_option Elab.async false
set_option linter.all false
set_option maxRecDepth 100000
set_option maxHeartbeats 4000000
/-! set(xs) and sorted(set) of lots -/
namespace TW
open PySem PySem.Spec PyProof.Rows L2
section
variable {P : Program} {w : World} {A : Around} {E : Value → Shared → Prop} {s : Shared}
theorem SW.keep {h h' : Heap} {a : Addr} {L : List (Addr × List Int)} {es : Array (Int × Value)} {ep : Nat} {t : SetTable} (R : SW P w h a L es ep t) (ka : ∀ o, h.get? a = some o → h'.get? a = some o) (kt : ∀ p ∈ L, IsT P w h' p.2 p.1) : SW P w h' a L es ep t := by
  obtain ⟨o, ho, r⟩ := R.ob
  exact ⟨⟨o, ka o ho, r⟩, R.rows, R.tab, R.nd, kt, R.plain, R.led, R.room, R.most⟩
/-- the loop that adds the items one by one -/
theorem set_loop {I : Addr} {fp wr : List Addr} {G : Array GenState → Array GenState → Prop} {n : Nat} {Pv : Nat → Value → Prop} {St : Nat → Shared → Prop} {R : Result → Shared → Prop}
    (W : WalksS P w A.in1 I fp wr G n Pv St) (S : Addr) (sf : S ∉ fp) (ks : List (Addr × List Int)) (hn : n = ks.length) (most : ks.length ≤ 64) (vals_ : ∀ i v, Pv i v → ∃ p, ks[i]? = some p ∧ v = .ref p.1)
    (h0 : Heap) (tk0 : ∀ p ∈ ks, IsT P w h0 p.2 p.1) (S0 : h0.get? S = none) (w0 : ∀ b ∈ wr, h0.get? b = none) (hu : A.in1.units < cLine) :
    ∀ (m i : Nat) (s : Shared), n - i = m → i ≤ n → St i s → (∀ b o, h0.get? b = some o → s.heap.get? b = some o) → (∃ L es ep t, SW P w s.heap S L es ep t ∧ Got ks i L) →
      (∀ s' L es ep t, Moved (S :: wr) G s s' → SW P w s'.heap S L es ep t → Got ks n L → (∀ b o, h0.get? b = some o → s'.heap.get? b = some o) → R (.ok (.ret .none)) s') →
      codeAny (model P w) A (.builtin "set.update.loop" ⟨[.ref S, .ref I], []⟩) R s := by
  have sw : S ∉ wr := fun h => sf (W.sub _ h)
  have wider : ∀ b ∈ wr, b ∈ S :: wr := fun b hb => List.mem_cons_of_mem _ hb
  have over : ∀ {s s' : Shared}, Moved wr G s s' → (∀ b o, h0.get? b = some o → s.heap.get? b = some o) → ∀ b o, h0.get? b = some o → s'.heap.get? b = some o := fun mv kp b o e =>
    mv.heap b o (fun hb => by rw [w0 b hb] at e; cases e) (kp b o e)
  intro m
  induction m with
  | zero =>
    intro i s hm hi st kp ⟨L, es, ep, t, hS, g⟩ fin
    obtain rfl : i = n := by omega
    refine codeAny_builtin F.entry_set_update_loop ?_
    rw [Around.under_plainId F.plain_set_update_loop _]
    change wpAny _ A.in1 (pyNext (.ref I) >>= _) _ _ s
    refine wpAny_bind (W.done s _ _ st fun s' mv => ?_)
    change wpAny _ A.in1 (ret Value.none) _ _ s'
    have kp' := over mv kp
    exact wpAny_pure (fin s' L es ep t (mv.mono wider) (hS.keep (fun o e => mv.heap S o sw e) fun p hp => isT_keep (tk0 p (List.mem_of_mem_take (g.sub p hp))) kp') g kp')
  | succ m ih =>
    intro i s hm hi st kp ⟨L, es, ep, t, hS, g⟩ fin
    have lt : i < n := by omega
    refine codeAny_builtin F.entry_set_update_loop ?_
    rw [Around.under_plainId F.plain_set_update_loop _]
    change wpAny _ A.in1 (pyNext (.ref I) >>= _) _ _ s
    refine wpAny_bind (W.item i s _ _ lt st fun v s' pv st' mv => ?_)
    obtain ⟨p, hp, rfl⟩ := vals_ i v pv
    have kp' := over mv kp
    have hS' : SW P w s'.heap S L es ep t := hS.keep (fun o e => mv.heap S o sw e) fun q hq => isT_keep (tk0 q (List.mem_of_mem_take (g.sub q hq))) kp'
    have hx : IsT P w s'.heap p.2 p.1 := isT_keep (tk0 p (List.mem_of_getElem? hp)) kp'
    change wpAny _ A.in1 (holding [Value.ref p.1] (setAdd S (.ref p.1)) >>= _) _ _ s'
    refine wpAny_bind (wpAny_holding ?_)
    unfold setAdd
    refine wpAny_holding (wpAny_bind (wpAny_pyHash_tuple hu hx ?_))
    have gl := g.len
    refine add_w (s := { s' with toks := s'.toks + (p.2.length + 1) }) hS' hx hu (by omega) fun b h' L' es' ep' t' sb hS2 c1 c2 => ?_
    have g' : Got ks (i + 1) L' := by
      by_cases c : p.2 ∈ L.map (·.2)
      · rw [c1 c]
        exact g.same hp c
      · exact g.more hp (c2 c)
    have kp2 : ∀ b o, h0.get? b = some o → h'.get? b = some o := fun b o e => (sb.2 b (fun z => by rw [z, S0] at e; cases e)).trans (kp' b o e)
    refine wpAny_pure ⟨plainId_quiet F.plain_set_update_loop _, ih (i + 1) _ (by omega) lt (W.frame _ s' _ _ st' (Nat.le_add_right _ _) fun b hb o e => ?_) kp2 ⟨L', es', ep', t', hS2, g'⟩ fun s'' L2 es2 ep2 t2 mv2 hS3 g3 kp3 => ?_⟩
    · exact (sb.2 b (fun z : b = S => sf (z ▸ hb))).trans e
    · refine fin s'' L2 es2 ep2 t2 (Moved.trans W.gtrans ((mv.mono wider).then_heap (Nat.le_add_right _ _) fun b o hb e => ?_) mv2) hS3 g3 kp3
      exact (sb.2 b (fun z : b = S => hb (z ▸ List.mem_cons_self))).trans e
theorem set_of_lots {l : Addr} {its : Array Value} (ks : List (Addr × List Int)) {Q : Value → Shared → Prop} (noh : A.handled = none) (il : s.heap.IsList l its) (ii : its.toList = ks.map fun p => Value.ref p.1)
    (tk0 : ∀ p ∈ ks, IsT P w s.heap p.2 p.1) (most : ks.length ≤ 64) (hu : A.units + 3 < cLine)
    (go : ∀ (g : Heap) (tk : Nat) L es ep t, SW P w g s.heap.objs.size L es ep t → Got ks ks.length L → (∀ b o, s.heap.get? b = some o → g.get? b = some o) → Q (.ref s.heap.objs.size) { s with heap := g, toks := tk }) :
    wpAny (model P w) A (call (.type "set") [.ref l]) Q E s := by
  have size_eq : its.size = ks.length := by
    have q := congrArg List.length ii
    simpa using q
  have C := F.called_set
  obtain ⟨c, tl, mro⟩ := C.mro
  have made_ := C.made
  have sub_ := C.sub
  have nt := C.notType
  have cc := C.canCreate
  have tc1 := F.typeCall_set_1 (.ref l)
  refine wpAny_call (codeAny_of_tree ?_)
  change wpAny _ _ (callAny (Value.type "set") ⟨[.ref l], []⟩) _ _ _
  refine wpAny_pure ⟨Code.quiet_builtin _ (by decide +kernel), codeAny_builtin F.entry_type_call ?_⟩
  rw [Around.under_plain (weight_type_call_type "set" _ _) rfl]
  repeat (any_goals (first | assumption | wp_step))
  refine codeAny_mono (code_set_led1 (.ref l) (E := E) (Q₁ := fun ob t => ob = .ref s.heap.objs.size ∧ t = { s with heap := s.heap.push (fresh0 w) }) ⟨rfl, rfl⟩) fun r t hr => ?_
  match r, hr with
  | .error e, hr => exact hr
  | .ok (.ret ob), hr =>
    obtain ⟨rfl, rfl⟩ := hr
    have at0 : (s.heap.push (fresh0 w)).get? s.heap.objs.size = some (fresh0 w) := Heap.get?_push_size _ rfl
    have ty0 : Shared.TypeIs { s with heap := s.heap.push (fresh0 w) } (.ref s.heap.objs.size) "set" := ⟨_, at0, rfl⟩
    have look_ := C.init.lookup
    have bind_ := C.init.bind (.ref s.heap.objs.size)
    repeat (any_goals (first | assumption | wp_step))
    refine codeAny_mono (codeAny_call_builtin (R := wants (fun r t => r = .none ∧ ∃ g tk L es ep tt, t = { s with heap := g, toks := tk } ∧ SW P w g s.heap.objs.size L es ep tt ∧ Got ks ks.length L ∧ (∀ b o, s.heap.get? b = some o → g.get? b = some o)) E) C.init.plain F.entry_set_init (check_set_init_1 ty0 ?_)) fun r2 t2 hr2 => ?_
    · obtain ⟨⟨lc, ld, ldat, lsl⟩, lat, e1, nl, e2⟩ := il
      simp only at e1 e2
      subst e1
      subst e2
      have lat1 : (s.heap.push (fresh0 w)).get? l = some { cls := .type "list", dict := ld, data := .seq its nl, slots := lsl } := Heap.get?_push_of_some _ lat
      have k1 := F.sub_list_set
      have k2 := F.sub_list_frozenset
      have k3 : (Value.type "list" == Value.type "dict") = false := by decide
      have il1 : (s.heap.push (fresh0 w)).IsList l its := ⟨_, lat1, rfl, nl, rfl⟩
      unfold Builtin.«set.__init__» noKeywords Builtin.Frozenset.updateFrom
      generalize ePI : pyIter = PI
      wp_walk
      subst ePI
      refine wpAny_pyIter_list il1 (wpAny_bind (wpAny_runValue ?_))
      have ll := Heap.lt_size lat
      have sz1 : (s.heap.push (fresh0 w)).objs.size = s.heap.objs.size + 1 := Heap.size_push ..
      have noh3 : A.in1.in1.in1.handled = none := by simp [noh]
      have nI : l ≠ (s.heap.push (fresh0 w)).objs.size := sz1 ▸ Nat.ne_of_lt (Nat.lt_succ_of_lt ll)
      have nS : s.heap.objs.size ∉ [(s.heap.push (fresh0 w)).objs.size, l] := by
        simp only [List.mem_cons, List.not_mem_nil, or_false, not_or]
        exact ⟨sz1 ▸ Nat.ne_of_lt (Nat.lt_succ_self _), Nat.ne_of_gt ll⟩
      have vals_ : ∀ (i : Nat) (v : Value), its[i]? = some v → ∃ p, ks[i]? = some p ∧ v = .ref p.1 := fun i v hv => by
        have q : its.toList[i]? = some v := by simpa using hv
        rw [ii, List.getElem?_map] at q
        cases hq : ks[i]? with
        | none => rw [hq] at q; cases q
        | some p => rw [hq] at q; exact ⟨p, rfl, (Option.some.inj q).symm⟩
      have beyond : ∀ b, s.heap.objs.size ≤ b → s.heap.get? b = none := fun b hb => by
        cases q : s.heap.get? b with
        | none => rfl
        | some o => exact absurd (Nat.lt_of_lt_of_le (Heap.lt_size q) hb) (Nat.lt_irrefl _)
      refine set_loop ((Walks.list noh3 _ l nI its).toS) s.heap.objs.size nS ks size_eq most vals_ s.heap tk0 (beyond _ (Nat.le_refl _)) (fun b hb => beyond b ?_) hu (its.size - 0) 0 _ (by omega) (Nat.zero_le _)
        ⟨⟨_, Heap.get?_push_size _ rfl, rfl, rfl⟩, il1.push _⟩ (fun b o e => Heap.get?_push_of_some _ (Heap.get?_push_of_some _ e)) ⟨[], #[], 0, _, SW.of (s := { s with heap := _ }) (setTR_fresh (Heap.get?_push_of_some _ at0)), Got.zero ks⟩ ?_
      · rw [List.mem_singleton.mp hb, sz1]
        exact Nat.le_succ _
      · rintro ⟨g, g2, d2, tk, os2⟩ L es ep tt mv R2 got kp
        have z1 : g2 = s.gens := mv.gens
        have z2 : d2 = s.drawn := mv.drawn
        have z3 : os2 = s.os := mv.os
        subst z1 z2 z3
        show wpAny _ _ _ _ _ _
        refine wpAny_pure ?_
        show wpAny _ _ (ret Value.none) _ _ _
        rw [size_eq] at got
        exact wpAny_pure ⟨rfl, g, tk, L, es, ep, tt, rfl, R2, got, kp⟩
    · match r2, hr2 with
      | .error e, hr2 => exact hr2
      | .ok (.ret r3), hr2 =>
        obtain ⟨rfl, g, tk, L, es, ep, tt, rfl, R2, got, kp⟩ := hr2
        repeat (any_goals (first | assumption | wp_step))
        exact go _ _ _ _ _ _ R2 got kp
      | .ok .next, hr2 => exact hr2.elim
      | .ok .brk, hr2 => exact hr2.elim
      | .ok .cont, hr2 => exact hr2.elim
  | .ok .next, hr => exact hr.elim
  | .ok .brk, hr => exact hr.elim
  | .ok .cont, hr => exact hr.elim
end
end TW
set_option Elab.async false
set_option linter.all false
set_option maxRecDepth 100000
set_option maxHeartbeats 4000000
namespace TW
open PySem PySem.Spec PyProof.Rows L2
open PySem.W (EachIs AllAlike Sortable dataLt dataLe dataKind)
/-- as SW, the tuples themselves left out -/
def SW0 (P : Program) (w : World) (h : Heap) (a : Addr) (L : List (Addr × List Int)) : Prop :=
  ∃ (es : Array (Int × Value)) (ep : Nat) (t : SetTable), (∃ o, h.get? a = some o ∧ o.ExactSet ∧ o.data = .set es ep t) ∧ es.toList = rowsOf P w L ∧ TabOk t (L.map fun p => thash P w p.2) ∧ (L.map (·.2)).Nodup ∧ t.plain = true ∧
    (w.params.followText "set-order" = true ∨ t.led = true) ∧ L.length * 5 < t.mask * 3 ∧ L.length ≤ 64
def LotSet (P : Program) (w : World) (a : Addr) (L : List (Addr × List Int)) : HO := .ext fun h => SW0 P w h a L
theorem SW.bare {P : Program} {w : World} {h : Heap} {a : Addr} {L : List (Addr × List Int)} {es : Array (Int × Value)} {ep : Nat} {t : SetTable} (R : SW P w h a L es ep t) : SW0 P w h a L :=
  ⟨es, ep, t, R.ob, R.rows, R.tab, R.nd, R.plain, R.led, R.room, R.most⟩
theorem lotSet_new {P : Program} {w : World} {H : Hp} {h : Heap} {a : Addr} {L : List (Addr × List Int)} (R : SW0 P w h a L) : ObjOk P w H h a (LotSet P w a L) := by
  have ⟨es, ep, t, ⟨o, ho, r⟩, q⟩ := R
  refine ⟨R, ⟨o, ho⟩, fun h1 h2 p k => ?_⟩
  obtain ⟨es', ep', t', ⟨o', ho', r'⟩, q'⟩ := p
  exact ⟨es', ep', t', ⟨o', k o' ho', r'⟩, q'⟩
theorem dups_of {ks L : List (Addr × List Int)} (g : Got ks ks.length L) : (∀ p ∈ L, p ∈ ks) ∧ ∀ p ∈ ks, p.2 ∈ L.map (·.2) :=
  ⟨fun p hp => List.mem_of_mem_take (g.sub p hp), fun p hp => g.all p (by rw [List.take_length]; exact hp)⟩
section
variable {X : Cx} {K : PySem.W.Frag} {P : Program} {w : World}
/-- set(xs), xs a list of up to 64 tuples of ints -/
def rSetL2 (K : PySem.W.Frag) (P : Program) (w : World) : List V → Hp → VK → Prop := fun xs H Q => ∃ (l : Addr) (ks : List (Addr × List Int)), xs = [V.ref l] ∧ SqL K H l (ks.map fun p => V.ref p.1) ∧ (∀ p ∈ ks, SqT K H p.1 (p.2.map V.int)) ∧ ks.length ≤ 64 ∧
  ∀ a L, H a = none → (∀ p ∈ L, p ∈ ks) → (∀ p ∈ ks, p.2 ∈ L.map (·.2)) → (L.map (·.2)).Nodup → Q (.ref a) (upd H a (LotSet P w a L))
theorem cr_setL (hc : X.calm = true) (hu : X.A.units + 64 < cLine) (hK : X.K = K := by rfl) (hP : X.prog = P := by rfl) (hw : X.w = w := by rfl) : CallR X (.type "set") (rSetL2 K P w) := by
  subst hK hP hw
  intro pins s σ H xs us Q I r h
  obtain ⟨l, ks, rfl, hl, hk, hf, q⟩ := h
  rw [Vals.ref1 r]
  obtain ⟨its, rv, pl, hz⟩ := I.list hl
  have hn : H s.heap.objs.size = none := I.hok.fresh (Nat.le_refl _)
  refine set_of_lots (P := X.prog) (w := X.w) ks (I.ok.hd hc) pl.isList (by simpa using refs_of_vals rv) (fun p hp => I.isT (hk p hp)) hf (by omega) fun g tk L es ep t R got kp => ?_
  obtain ⟨d1, d2⟩ := dups_of got
  exact ⟨.ref s.heap.objs.size, upd H s.heap.objs.size (LotSet X.prog X.w s.heap.objs.size L), I.laid (t' := tk) kp (Nat.le_refl _) (lotSet_new R.bare), rfl, q _ L hn d1 d2 R.nd⟩
/-- sorted(a set of tuples of ints) -/
def rSortS (K : PySem.W.Frag) (P : Program) (w : World) : List V → Hp → VK → Prop := fun vs H Q => ∃ (a : Addr) (L : List (Addr × List Int)), vs = [V.ref a] ∧ H a = some (LotSet P w a L) ∧ (∀ p ∈ L, SqT K H p.1 (p.2.map V.int)) ∧
  ∀ (L' : List (Addr × List Int)) (p : Addr), L'.Perm L → L'.Pairwise (fun x y => HT.lexLt y.2 x.2 = false) → H p = none → Q (.ref p) (upd H p (.lst (L'.map fun q => V.ref q.1)))
end
section
variable {P : Program} {w : World} {A : Around} {E : Value → Shared → Prop} {s : Shared}
theorem each_reads : ∀ {vs : List Value} {L : List (Addr × List Int)} {h : Heap}, vs = L.map (fun q => Value.ref q.1) → (∀ q ∈ L, IsT P w h q.2 q.1) → EachIs (fun v (q : Addr × List Int) => ∃ as, Reads h v (tupD q.2) as) vs L
  | [], [], _, _, _ => .nil
  | [], _ :: _, _, e, _ => by cases e
  | _ :: _, [], _, e, _ => by cases e
  | v :: vs, q :: L, h, e, ht => by
    rw [List.map_cons, List.cons.injEq] at e
    obtain ⟨rfl, e2⟩ := e
    refine .cons ?_ (each_reads e2 fun r hr => ht r (List.mem_cons_of_mem _ hr))
    obtain ⟨o, items, n, ho, hc, hd, hi⟩ := ht q List.mem_cons_self
    have rd : ∀ {k : List Int} {us : List Value}, ItemsAre (intKind P w) k us → ∃ as, ReadsAll h us (k.map .int) as := by
      intro k us hi
      induction hi with
      | nil => exact ⟨_, .nil⟩
      | @cons k0 v ks vs h1 _ ih =>
        obtain ⟨t, rfl⟩ := Value.isInt_shape h1
        obtain ⟨as, r⟩ := ih
        exact ⟨_, .cons (.int _ _) r⟩
    obtain ⟨as, r⟩ := rd hi
    exact ⟨_, .tuple ho hc hd r⟩
theorem perm_map_ex {α β : Type} [DecidableEq α] {f : α → β} : ∀ {vs : List β} {L : List α}, vs.Perm (L.map f) → ∃ L1 : List α, L1.Perm L ∧ vs = L1.map f
  | [], L, h => by
    have e : L.map f = [] := h.symm.eq_nil
    have e2 : L = [] := by simpa using e
    exact ⟨[], by rw [e2], rfl⟩
  | v :: vs, L, h => by
    obtain ⟨q, hq, e⟩ := List.mem_map.mp (h.mem_iff.mp List.mem_cons_self)
    have p1 := List.perm_cons_erase hq
    have p2 : (v :: vs).Perm (f q :: (L.erase q).map f) := h.trans (p1.map f)
    rw [e] at p2
    obtain ⟨L1, h1, h2⟩ := perm_map_ex p2.cons_inv
    exact ⟨q :: L1, (h1.cons q).trans p1.symm, by rw [List.map_cons, e, h2]⟩
theorem lexLe_pw (bs : List (Addr × List Int)) : (bs.mergeSort (dataLe false (fun q => tupD q.2))).Pairwise (fun x y => HT.lexLt y.2 x.2 = false) := by
  have T := PySem.W.sortLe_total (PyProof.Rows.listOrd PyProof.Rows.itemOrd) false (fun b : Addr × List Int => PySem.W.keyToks (tupD b.2))
  have e : dataLe false (fun b : Addr × List Int => tupD b.2) = PySem.W.sortLe (PyProof.Rows.listOrd PyProof.Rows.itemOrd) false (fun b : Addr × List Int => PySem.W.keyToks (tupD b.2)) := rfl
  have h := List.pairwise_mergeSort (le := dataLe false (fun b : Addr × List Int => tupD b.2)) (fun a b c h1 h2 => by rw [e] at h1 h2 ⊢; exact T.trans a b c h1 h2) (fun a b => by rw [e]; rcases T.total a b with h | h <;> simp [h]) bs
  refine h.imp fun {x y} h => ?_
  have h' : (!dataLt (tupD y.2) (tupD x.2)) = true := h
  rw [Bool.not_eq_true', lt_tupD] at h'
  exact h'
theorem sorted_lotset {a : Addr} {L : List (Addr × List Int)} {es : Array (Int × Value)} {ep : Nat} {t : SetTable} {Q : Value → Shared → Prop} (R : SW P w s.heap a L es ep t) (noh : A.handled = none) (hu : A.units + 64 < cLine)
    (go : ∀ s' p (out : List Value) (c : Nat) (L' : List (Addr × List Int)), (∀ b o, s.heap.get? b = some o → s'.heap.get? b = some o) → s'.gens = s.gens → s'.os = s.os → s.heap.objs.size ≤ p →
      s'.heap.get? p = some (seqObj "list" out.toArray c) → EachIs (fun v q => v = Value.ref q.1) out L' → L'.Perm L → L'.Pairwise (fun x y => HT.lexLt y.2 x.2 = false) → Q (.ref p) s') :
    wpAny (model P w) A (call (.builtin "sorted") [.ref a]) Q E s := by
  obtain ⟨o, ho, ex_, dat⟩ := R.ob
  have sz := R.size
  have most := R.most
  have fits : t.fits es.size = true := by
    have h1 := R.tab.sz
    rw [List.length_map] at h1
    have h3 := R.room
    unfold SetTable.fits SetTable.fill
    rw [R.tab.dm, Bool.and_eq_true, beq_iff_eq, decide_eq_true_eq]
    constructor
    · omega
    · change t.place.size + 0 ≤ t.mask
      omega
  refine Calls.call_function_entry kind_sorted plain_sorted entry_sorted (args_sorted1 _) ?_
  unfold Builtin.«sorted»
  refine wpAny_bind (m := checkCount "sorted" 1 1 _) (wpAny_pure ?_)
  refine wpAny_bind (collect_set (A := A.in1) noh ⟨o, ho, ex_.1, dat⟩ fits (by unfold scanBound; omega) R.tab.ris R.led fun s1 vs k1 hz g1 o1 pm => ?_)
  have es2 : es.toList.map (·.2) = L.map fun q => Value.ref q.1 := by
    rw [R.rows]
    simp [rowsOf]
  rw [es2] at pm
  obtain ⟨L1, pL, rfl⟩ := perm_map_ex pm
  have lenL : (L1.map fun q => Value.ref q.1).length ≤ sizeLine := by
    rw [List.length_map, pL.length_eq, sizeLine_eq]
    omega
  refine wpAny_bind (wpAny_newList ?_ lenL)
  have at1 : (s1.heap.push (seqObj "list" (L1.map fun q => Value.ref q.1).toArray 0)).get? s1.heap.objs.size = some (seqObj "list" (L1.map fun q => Value.ref q.1).toArray 0) := Heap.get?_push_size _ rfl
  have keep1 : ∀ b u, s.heap.get? b = some u → (s1.heap.push (seqObj "list" (L1.map fun q => Value.ref q.1).toArray 0)).get? b = some u := fun b u e => Heap.get?_push_of_some _ (k1 b u e)
  generalize hg : s1.heap.push (seqObj "list" (L1.map fun q => Value.ref q.1).toArray 0) = g at at1 keep1 ⊢
  have keep2 : ∀ b u, s.heap.get? b = some u → (PySem.W.sortingHeap g s1.heap.objs.size (L1.map fun q => Value.ref q.1)).get? b = some u := fun b u e =>
    PySem.W.sortingHeap_old (Nat.ne_of_lt (Nat.lt_of_lt_of_le (Heap.lt_size e) hz)) (keep1 b u e)
  have er := each_reads (P := P) (w := w) (h := PySem.W.sortingHeap g s1.heap.objs.size (L1.map fun q => Value.ref q.1)) rfl fun q hq => isT_keep (R.tup q (pL.mem_iff.mp hq)) keep2
  have S : PySem.W.SortsAt P w A.in1.in1 { s1 with heap := PySem.W.sortingHeap g s1.heap.objs.size (L1.map fun q => Value.ref q.1) } (dataKind (PySem.W.sortingHeap g s1.heap.objs.size (L1.map fun q => Value.ref q.1)) (L1.map fun q => tupD q.2)) (L1.map fun q => Value.ref q.1) := by
    refine sorts_lots (PySem.W.each_map (R := fun v d => ∃ as, Reads (PySem.W.sortingHeap g s1.heap.objs.size (L1.map fun q => Value.ref q.1)) v d as) (fun q : Addr × List Int => tupD q.2) er) (fun d hd => ?_) (by change A.units + 1 + 1 + 5 < cLine; omega)
    obtain ⟨q, _, rfl⟩ := List.mem_map.mp hd
    exact ⟨_, rfl⟩
  have hal : AllAlike (L1.map fun q => tupD q.2) := fun d hd d' hd' => by
    obtain ⟨q, _, rfl⟩ := List.mem_map.mp hd
    obtain ⟨q', _, rfl⟩ := List.mem_map.mp hd'
    exact alike_tupD _ _
  have e0 : EachIs (fun v (q : Addr × List Int) => v = Value.ref q.1) (L1.map fun q => Value.ref q.1) L1 := by
    clear S er keep2 keep1 at1 hg pm lenL pL hal
    induction L1 with
    | nil => exact .nil
    | cons q r ih => exact .cons rfl ih
  have eo := PySem.W.sortVals_data (h' := PySem.W.sortingHeap g s1.heap.objs.size (L1.map fun q => Value.ref q.1)) (enc := fun q : Addr × List Int => tupD q.2) false e0 er hal
  refine wpAny_bind (wpAny_holding (wpAny_call_entry slot_list_sort ⟨_, at1, rfl⟩ entry_list_sort (PySem.W.list_sort_vals at1 S lenL ⟨_, rfl, ?_⟩) (args_list_sort _)))
  generalize PySem.W.sortVals (dataKind (PySem.W.sortingHeap g s1.heap.objs.size (L1.map fun q => Value.ref q.1)) (L1.map fun q => tupD q.2)) false (L1.map fun q => Value.ref q.1) (L1.map fun q => Value.ref q.1) = out at eo
  obtain ⟨c, hc⟩ := sortedHeap_at (vs := L1.map fun q => Value.ref q.1) (out := out.toArray) at1
  refine wpAny_pure ⟨_, rfl, go _ s1.heap.objs.size out c _ (fun b u e => ?_) g1 o1 hz hc eo ((List.mergeSort_perm _ _).trans pL) (lexLe_pw L1)⟩
  have q := keep1 b u e
  change (sortedHeap g s1.heap.objs.size _ _).get? b = some u
  rw [sortedHeap_old (Nat.ne_of_lt (Nat.lt_of_lt_of_le (Heap.lt_size e) hz)) (Heap.lt_size q)]
  exact q
end
section
variable {X : Cx} {K : PySem.W.Frag} {P : Program} {w : World}
theorem vals_of_refEach : ∀ {us : List Value} {L : List (Addr × List Int)}, EachIs (fun v q => v = Value.ref q.1) us L → Vals (L.map fun q => V.ref q.1) us
  | _, _, .nil => .nil
  | _, _, .cons r t => .cons r (vals_of_refEach t)
theorem cr_sortS (hc : X.calm = true) (hu : X.A.units + 64 < cLine) (hK : X.K = K := by rfl) (hP : X.prog = P := by rfl) (hw : X.w = w := by rfl) : CallR X (.builtin "sorted") (rSortS K P w) := by
  subst hK hP hw
  intro pins s σ H vs us Q I r h
  obtain ⟨a, L, rfl, ha, hk, q⟩ := h
  obtain ⟨es, ep, t, h1, h2, h3, h4, h5, h6, h7, h8⟩ := (I.hok a _ ha).1
  rw [Vals.ref1 r]
  refine sorted_lotset (P := X.prog) (w := X.w) ⟨h1, h2, h3, h4, fun p hp => I.isT (hk p hp), h5, h6, h7, h8⟩ (I.ok.hd hc) hu fun s' p out c L' kp gp op hp hg heach pm pw => ?_
  have hlen : (L'.map fun q => V.ref q.1).length ≤ sizeLine := by rw [List.length_map, pm.length_eq, sizeLine_eq]; omega
  have hn : H p = none := I.hok.fresh hp
  have J : Inv X pins σ (upd H p (.lst (L'.map fun q => V.ref q.1))) { s with heap := s'.heap, gens := s'.gens, drawn := s'.drawn, toks := s'.toks } :=
    I.call (ch := []) (Un.laid kp hp hn) (I.hok.laid kp hp ⟨hlen, out, c, vals_of_refEach heach, hg⟩) (by rw [gp]; exact I.bare) (fun _ z => absurd z List.not_mem_nil)
  have e : s' = { s with heap := s'.heap, gens := s'.gens, drawn := s'.drawn, toks := s'.toks } := by
    obtain ⟨x1, x2, x3, x4, x5⟩ := s'
    cases op
    rfl
  rw [e]
  exact ⟨.ref p, _, J, rfl, q L' p pm pw hn⟩
end
end TW
set_option Elab.async false
set_option linter.all false
set_option maxRecDepth 100000
set_option maxHeartbeats 2000000
/-! for x in o, o of an own class whose __iter__ hands out iter(its tuple) -/
namespace TW
open PySem PySem.Spec PyProof.Rows L2
def tupIt (t : Addr) : Obj := { cls := .type "tuple_iterator", data := .fields #[.ref t, .int 0 0] }
/-- at it a new iterator over the tuple at t -/
def TiO (t it : Addr) : HO := .ext fun h => h.get? it = some (tupIt t)
def rIterT (K : PySem.W.Frag) (n : Nat) : List V → Hp → VK → Prop := fun vs H Q => ∃ (t : Addr) (zs : List V), vs = [.ref t] ∧ SqT K H t zs ∧ ∀ it, H it = none → n ≤ it → Q (.ref it) (upd H it (TiO t it))
theorem run_iterT {prog : Program} {w : World} {A : Around} {E : Value → Shared → Prop} {s : Shared} {t : Addr} {items : Array Value} {Q : Value → Shared → Prop} (ht : s.heap.IsTuple t items)
    (h : Q (.ref s.heap.objs.size) { s with heap := s.heap.push (tupIt t) }) : wpAny (model prog w) A (call (.builtin "iter") [.ref t]) Q E s := by
  refine Calls.call_function_entry (by decide +kernel) (by decide +kernel) PySem.W.kdk_entry_iter (PySem.W.kdk_args_iter _) ?_
  unfold Builtin.«iter»
  refine wpAny_bind (m := someArgs "iter" 1 2 _) (wpAny_of_eq (a := [Value.ref t]) (by first | rfl | kernel_rfl!) (wpAny_bind (wpAny_pyIter_tuple ht ?_)))
  exact wpAny_pure ⟨_, rfl, h⟩
section
variable {X : Cx}
theorem call_iterT {K : PySem.W.Frag} {n : Nat} (hK : X.K = K := by rfl) (hn : X.s_0.heap.objs.size = n := by rfl) : CallR X (.builtin "iter") (rIterT K n) := by
  subst hK hn
  intro pins s σ H vs us Q I r h
  obtain ⟨t, zs, rfl, hz, q⟩ := h
  cases Vals.ref1 r
  obtain ⟨its, rv, p, _⟩ := I.tuple hz
  exact run_iterT (show s.heap.IsTuple t its.toArray from p) ⟨.ref s.heap.objs.size, _, I.laid (t' := s.toks) (fun b u e => Heap.get?_push_of_some _ e) (Nat.le_refl _)
    (show ObjOk X.prog X.w _ _ s.heap.objs.size (TiO t s.heap.objs.size) from ⟨Heap.get?_push_size _ rfl, ⟨_, Heap.get?_push_size _ rfl⟩, fun _ _ z k => k _ z⟩), rfl, q _ (I.hok.fresh (Nat.le_refl _)) I.sz⟩
end
/-- a def that promises more of a call where the heap is this big -/
def FnY (P : Program) (w : World) (K : PySem.W.Frag) (mg : Str → Option Value) (base : Heap) (k : Nat) (f : Addr) (fd : FuncData) (ps : List Str) (sp : Nat → Sp) : Prop :=
  ∀ (A : Around) (outer : List Env) (s : Shared) (H : Hp) (us : List Value) (vs : List V) (Q : VK) , Room k A → Env0 P w K mg base A outer s H → BindsTo s fd ⟨us, []⟩ (ps.zip us) → Vals vs us → vs.length = ps.length → sp s.heap.objs.size vs H Q E0 →
    codeAny (model P w) A (.call (.ref f) ⟨us, []⟩) (CR CX0 outer P w H s Q E0) s
theorem Fun.okY {P : Program} {w : World} {K : PySem.W.Frag} {mg : Str → Option Value} {base : Heap} {k : Nat} {x qual : Str} {st : Stmt} {f : Addr} {fd : FuncData} {N ps : List Str} {sp : Nat → Sp} (F : Fun K x qual st f fd) (S : FnScope N ps (defScope st))
    (hb : ∀ (cdv : Value) (A : Around) (outer : List Env) (s : Shared) (H : Hp) (vs : List V) (Q : VK), Room k (A.deeper (envOfC qual (defScope st) s.heap.objs.size f cdv)) → sp s.heap.objs.size vs H Q E0 →
      ∃ t, PSs (cxOf CX0 P w K mg base N qual (defScope st) f cdv A outer s H E0) (defBody st) t ∧ t { nx := fun _ H' => Q .non H', rt := Q } (start N vs) H) : FnY P w K mg base (k + 1) f fd ps sp := by
  obtain ⟨oc, od, kV, doc, pm, an, cdv, ct, osl, rfl, lk, hcd⟩ := F.ex
  intro A outer s H us vs Q hr e0 hbd r hl hsp
  have KX : K.In s.heap := e0.mod.kin.keeps fun b o e => (e0.bs b o e).1
  have hkind : ∀ y ∈ ps.zip us, (defScope st).names.lookup y.1 = some .local ∨ ((defScope st).names.lookup y.1 = some .cell ∧ ((cellsFrom (s.heap.objs.size + 1) (defScope st).names []).lookup y.1).isSome = true) := by
    rintro ⟨n, v⟩ hy
    exact (S.par n (List.of_mem_zip hy).1).imp id fun q => ⟨q, PySem.W.cellsFrom_some _ _ _ (.inl q)⟩
  refine codeAny_call_function hr.depth (KX _ _ lk) rfl S.co S.gen rfl (PySem.W.codeRec_of KX hcd) (hbd _ _ _ _ (wpAny_newFunctionEnv_cells S.kind hkind ?_))
  rintro env rfl s1 x
  refine ⟨(e0.mod.nolimit.keeps fun b o e => (e0.bs b o e).1).keeps x.toInCall.keep, codeAny_func ?_⟩
  obtain ⟨t, ht, hq⟩ := hb cdv A outer s H vs Q (hr.deeper _) hsp
  refine wpAny_mono (ht.run [] s1 (start N vs) H _ (inv_start S hr.hd e0 hl r x) hq) (fun fl s' hs => ?_) fun e s' hs => hs
  cases fl with
  | ret u => exact hs.elim fun v z => z.elim fun σ' z => z.elim fun H' z => ⟨v, H', z.1.os, z.1.bare, z.1.base, z.1.hok, z.2.1, z.2.2⟩
  | next => exact hs.elim fun σ' z => z.elim fun H' z => ⟨V.non, H', z.1.os, z.1.bare, z.1.base, z.1.hok, rfl, z.2⟩
  | brk => exact hs.elim fun _ z => z.elim fun _ z => z.elim fun _ z => z.elim
  | cont => exact hs.elim fun _ z => z.elim fun _ z => z.elim fun _ z => z.elim
/-- what such an __iter__ promises: an iterator that was not there -/
def spIt (K : PySem.W.Frag) (C : Addr) (f : Str) : Nat → Sp := fun n vs H Q _ => ∃ a dx fs l zs, vs = [.ref a] ∧ H a = some (.ins C dx fs) ∧ fs.lookup f = some (.ref l) ∧ SqT K H l zs ∧ ∀ it, H it = none → n ≤ it → Q (.ref it) (upd H it (TiO l it))
def iOwn (K : PySem.W.Frag) (C : Addr) (f : Str) (te : TE) : TI := fun σ H R => te σ H fun x H1 => ∃ a dx fs l zs, x = .ref a ∧ H1 a = some (.ins C dx fs) ∧ fs.lookup f = some (.ref l) ∧ SqT K H1 l zs ∧ R (Itt K l) H1
theorem pi_own {X : Cx} {tg e : Expr} {te : TE} {k : Nat} {C fi : Addr} {fd : FuncData} {f : Str} (he : PE X e te) (h1 : PySem.W.findIn X.K (.ref C) "__iter__" = some (some (.ref fi))) (h2 : PySem.W.isFn X.K (.ref fi) = true)
    (F : FnY X.prog X.w X.K X.mg X.base k fi fd ["self"] (spIt X.K C f)) (b : Binds X.K fd ["self"] []) (hr : Room k X.A) : PI X tg e (iOwn X.K C f te) := by
  refine ⟨fun pins s σ H R I h => thn (he.run pins s σ H _ I h) fun v s1 y => ?_⟩
  obtain ⟨x, H1, I1, r1, a, dx, fs, l, zs, rfl, ha, hf, hz, q⟩ := y
  cases r1
  obtain ⟨mA, O, _⟩ := ins_get I1.hok ha
  obtain ⟨od, J, _⟩ := O.look
  obtain ⟨m, hF⟩ := I1.fr
  refine PySem.W.owit_iter hF I1.ok.mod.kin J h1 h2 (wpAny_call (codeAny_mono (F X.A X.stack s1 H1 [.ref a] [.ref a] (fun v H' => ∃ it, v = .ref it ∧ H1 it = none ∧ s1.heap.objs.size ≤ it ∧ H' = upd H1 it (TiO l it)) hr I1.env0 ?_ (.cons rfl .nil) rfl ?_) fun r s' hq => ?_))
  · have z := b s1 [.ref a] I1.kIn rfl
    rw [List.append_nil] at z
    exact z
  · exact ⟨a, dx, fs, l, zs, rfl, ha, hf, hz, fun it n1 n2 => ⟨it, rfl, n1, n2, rfl⟩⟩
  · cases r with
    | error er => exact hq.elim
    | ok fl =>
      cases fl with
      | next => exact hq.elim
      | brk => exact hq.elim
      | cont => exact hq.elim
      | ret u =>
        obtain ⟨v, H', I2, rv, it, rfl, n1, n2, rfl⟩ := I1.after hq
        cases rv
        have ho : s'.heap.get? it = some (tupIt l) := (I2.hok it _ upd_same).1
        unfold PySem.W.OwitIt
        refine wpAny_specialOf ⟨_, ho, rfl⟩ PySem.F.slot_tuple_iterator_next.lookup ?_
        have I3 := ItX.inv_drop I2 upd_same
        have fp := ItX.inv_fp I2 upd_same (Nat.le_trans I1.sz n2)
        rw [ItX.dropH_upd n1] at I3 fp
        refine ⟨it, [it], fun i h => h.IsTupleIter it l i, Itt X.K l, H1, rfl, I3, turn_tuple l it, ⟨_, ho, rfl, rfl⟩, fun b hb => ?_, q⟩
        rw [List.mem_singleton.mp hb]
        exact fp
end TW
set_option Elab.async false
set_option linter.all false
set_option maxRecDepth 100000
set_option maxHeartbeats 4000000
namespace TW
open PySem PySem.Spec PyProof.Rows L2
/-! tables -/
theorem tl_ne : ¬ (("_lots" : Str) = "_things") := by decide +kernel
def tf (n : Nat) (l : Addr) : List (Str × V) := putF "_lots" (.ref l) (putF "_things" (.int n) [])
theorem tf_things (n : Nat) (l : Addr) : (tf n l).lookup ("_things" : Str) = some (.int n) := by
  unfold tf
  rw [lookup_putF, if_neg (fun h => tl_ne h.symm), lookup_putF, if_pos rfl]
theorem tf_lots (n : Nat) (l : Addr) : (tf n l).lookup ("_lots" : Str) = some (.ref l) := by
  unfold tf
  rw [lookup_putF, if_pos rfl]
abbrev Lots := List (Addr × List Int)
def refs (L : Lots) : List V := L.map fun p => V.ref p.1
def InLots (H : Hp) (L : Lots) : Prop := ∀ p ∈ L, H p.1 = some (.tup (p.2.map V.int))
theorem InLots.ex {H H' : Hp} {L : Lots} (e : Ex H H') (h : InLots H L) : InLots H' L := fun p hp => e _ _ (h p hp)
def TabAt (C : Addr) (H : Hp) (a : Addr) (n : Nat) (L : Lots) : Prop := ∃ dx l, H a = some (.ins C dx (tf n l)) ∧ H l = some (.tup (refs L)) ∧ InLots H L
theorem TabAt.ex {C : Addr} {H H' : Hp} {a : Addr} {n : Nat} {L : Lots} (e : Ex H H') (h : TabAt C H a n L) : TabAt C H' a n L := by
  obtain ⟨dx, l, h1, h2, h3⟩ := h
  exact ⟨dx, l, e _ _ h1, e _ _ h2, h3.ex e⟩
/-- what of the lots a table keeps -/
def LotsOf (ks L : Lots) : Prop := (∀ p ∈ L, p ∈ ks) ∧ (∀ p ∈ ks, p.2 ∈ L.map (·.2)) ∧ (L.map (·.2)).Nodup ∧ L.Pairwise (fun x y => HT.lexLt y.2 x.2 = false)
structure TC (K : PySem.W.Frag) (mg : Str → Option Value) (C : Addr) : Prop where
  cl : Cls K C
  ins : C8.InsC K C
  nT : NoAttr K C "_things"
  nL : NoAttr K C "_lots"
  mg : mg "Table" = some (.ref C)
section
variable {P : Program} {w : World} {K : PySem.W.Frag} {mg : Str → Option Value} {base : Heap} {C : Addr}
/-! check_things -/
theorem sc_check_things : FnScope ["things"] ["things"] (defScope s_check_things) := ⟨rfl, rfl, rfl, by decide +kernel, rfl, by decide +kernel, by decide +kernel⟩
def spCheckThings : Sp := fun vs H Q _ => ∃ n : Nat, vs = [.int n] ∧ 0 < n ∧ Q .non H
theorem ok_check_things (D : Dfn K mg "check_things" s_check_things ["things"]) (O_is_integer : Ok P w K mg base 1 "is_integer" ["value", "least"] spIsInt) : Ok P w K mg base 2 "check_things" ["things"] spCheckThings := D.ok fun f fd F => by
  refine F.ok sc_check_things (fun vs H Q E h => ?_) (fun cdv A outer s H vs Q E hr h => ?_)
  · obtain ⟨n, rfl, _⟩ := h
    rfl
  · obtain ⟨n, rfl, hn, q⟩ := h
    refine ⟨_, (pss_one (ps_if (pt_not (pt_val (pe_o O_is_integer hr (pa_cons (pv 0) (pa_cons pe_int pa_nil))))) (pss_one ps_never) pss_nil)), ?_⟩
    refine ⟨_, rfl, n, 1, rfl, ?_⟩
    rw [decide_eq_true (show (1 : Int) ≤ n by omega)]
    exact ⟨_, rfl, q⟩
/-! Table.__init__ -/
theorem sc_Table_init : FnScope ["self", "things", "lots", "lot"] ["self", "things", "lots"] (defScope s_Table_init) := ⟨rfl, rfl, rfl, by decide +kernel, rfl, by decide +kernel, by decide +kernel⟩
def lotsIn (n : Nat) (ks : Lots) : Prop := ks ≠ [] ∧ ks.length ≤ 64 ∧ ∀ p ∈ ks, isLot p.2 (some (n : Int)) = true ∧ p.2.length ≤ 1000
def spInit (C : Addr) : Sp := fun vs H Q _ => ∃ (G : Hp) (l : List (Addr × HO)) (a dx ll : Addr) (n : Nat) (ks : Lots), vs = [.ref a, .int n, .ref ll] ∧ Has G H ((a, .ins C dx []) :: l) ∧ H ll = some (.lst (refs ks)) ∧ ll ≠ a ∧ InLots G ks ∧ 0 < n ∧ lotsIn n ks ∧
  ∀ (G' H' : Hp) (dl : Addr) (L : Lots), Ex G G' → Has G' H' ((a, .ins C dx (tf n dl)) :: l) → G' dl = some (.tup (refs L)) → LotsOf ks L → Q .non H'
theorem ok_init {f : Addr} {fd : FuncData} (F : Fun K "__init__" "Table.__init__" s_Table_init f fd) (z : Z mg) (T : TC K mg C) (O_check_things : Ok P w K mg base 2 "check_things" ["things"] spCheckThings) (O_is_lot : Ok P w K mg base 3 "is_lot" ["value", "things"] (spIsLot K)) :
    FnOk P w K mg base CX0 4 f fd ["self", "things", "lots"] (spInit C) := by
  refine F.ok sc_Table_init (fun vs H Q E h => ?_) (fun cdv A outer s H vs Q E hr h => ?_)
  · obtain ⟨G, l, a, dx, ll, n, ks, rfl, _⟩ := h
    rfl
  · obtain ⟨G, l, a, dx, ll, n, ks, rfl, S, hll, nla, hks, hn, ⟨ne, l64, hlot⟩, q⟩ := h
    refine ⟨_, (pss_cons (ps_expr (pe_o O_check_things (hr.mono (by decide)) (pa_cons (pv 1) pa_nil)))
      (pss_cons (ps_if (PW.pt (pw_or (pt_cmpR op_isNotTy (pe_callTy call_type1 (by rfl) z.type (by decide +kernel) (pa_cons (pv 2) pa_nil)) (pe_tyn (n := "list") (by rfl) z.list (by decide +kernel)) (nomark _)) (pw_or1 (pt_cmpR op_eq (pe_callB call_len_seq (by rfl) z.len PySem.boot_len (pa_cons (pv 2) pa_nil)) pe_int (nomark _))))) (pss_one ps_never) pss_nil)
      (pss_cons (ps_if (pt_not (pt_val (pe_callB (cr_all rfl) (by rfl) z.all (by decide +kernel) (pa_cons (pe_lc (own := [("lot", 3)]) (g := gName 3) rfl sc_Table_init.nd (pi_list (pv 2)) (blkOk_by (N := ["self", "things", "lots", "lot"]) (own := [("lot", 3)]) (sc := defScope s_Table_init) (by decide +kernel)) (fun _ _ _ _ _ => pg_name (i := 3) sc_Table_init.nd rfl (Or.inl rfl)) (fun _ _ _ _ _ => pts_nil) (fun _ _ _ _ _ => (pe_o O_is_lot hr (pa_cons (pv 3) (pa_cons (pv 1) pa_nil))))) pa_nil)))) (pss_one ps_never) pss_nil)
      (pss_cons (ps_fld (pv 0) (pv 1) rfl)
      (pss_one (ps_fld (pv 0) (pe_callTy call_tuple_of (by rfl) z.tuple (by decide +kernel) (pa_cons (pe_callB (cr_sortS (K := K) (P := P) (w := w) rfl hr.units) (by rfl) z.sorted (by decide +kernel) (pa_cons (pe_callTy (cr_setL (K := K) (P := P) (w := w) rfl hr.units) (by rfl) z.set (by decide +kernel) (pa_cons (pv 2) pa_nil)) pa_nil)) pa_nil)) rfl)))))), ?_⟩
    refine ⟨_, rfl, n, rfl, hn, ?_⟩
    refine ⟨_, rfl, _, _, rfl, .lst (Evl.sq_of hll), _, _, rfl, rfl, _, rfl, ?_⟩
    have lks : (refs ks).length = ks.length := by unfold refs; rw [List.length_map]
    refine ⟨_, rfl, ll, _, rfl, .inl (Evl.sq_of hll), rfl, _, rfl, ?_⟩
    have hne : ¬ (V.int (((refs ks).length : Nat) : Int) = V.int 0) := by
      intro e
      have e2 := V.int.inj e
      rw [lks] at e2
      exact ne (List.length_eq_zero_iff.mp (by omega))
    rw [decide_eq_false hne]
    refine iteF ?_
    refine ⟨_, rfl, ll, rfl, ⟨_, Evl.sq_of hll⟩, fun Dl hD => ?_⟩
    have nDl : ll ≠ Dl := ne_of_none hll hD
    refine lc_list (K := K) (a := ll) (xs := refs ks) (fun i H' => Ex H H' ∧ H' Dl = some (.lst ((List.replicate i true).map V.bl))) ⟨Evl.Ex.new hD, by rw [upd_same]; rfl⟩ (fun i H' _ p => Evl.sq_of (p.1 _ _ hll)) ?_ ?_
    · rintro i x H1 hi ⟨e1, h1⟩
      obtain ⟨p, hp, rfl⟩ : ∃ p, ks[i]? = some p ∧ x = V.ref p.1 := by
        unfold refs at hi
        rw [List.getElem?_map] at hi
        cases e : ks[i]? with
        | none => rw [e] at hi; cases hi
        | some p => rw [e] at hi; exact ⟨p, rfl, (Option.some.inj hi).symm⟩
      have hpm := List.mem_of_getElem? hp
      have hi2 := (List.getElem?_eq_some_iff.mp hp).1
      refine ⟨rfl, _, rfl, _, rfl, p.1, p.2, some (n : Int), rfl, Evl.st_of (e1 _ _ (S.ex _ _ (hks p hpm))), (hlot p hpm).2, fun H2 e2 => ?_⟩
      rw [(hlot p hpm).1]
      refine ⟨_, e2 _ _ h1, szl (by rw [List.length_map, List.length_replicate]; omega), Evl.Ex.mut (e1.trans e2) hD, ?_⟩
      rw [upd_same, List.replicate_succ', List.map_append]
      rfl
    · rintro H1 ⟨e1, h1⟩
      refine ⟨Dl, _, rfl, Evl.sq_of h1, _, rfl, ?_⟩
      have ea : (List.replicate (refs ks).length true).all id = true := by simp
      rw [ea]
      have S1 := S.go e1
      refine ⟨_, rfl, _, rfl, a, C, dx, [], rfl, S1.get 0 rfl, T.cl, T.nT, (by show 0 < 1000; decide), ?_⟩
      have S2 : Has G _ ((a, .ins C dx (putF "_things" (.int n) [])) :: l) := S1.set 0 rfl
      have hll2 : (upd H1 a (.ins C dx (putF "_things" (.int n) []))) ll = some (.lst (refs ks)) := Eq.trans (upd_ne nla) (e1 _ _ hll)
      generalize upd H1 a (.ins C dx (putF "_things" (.int n) [])) = H2 at S2 hll2
      refine ⟨_, rfl, ll, ks, rfl, Evl.sq_of hll2, fun p hp => Evl.st_of (S2.ex _ _ (hks p hp)), l64, fun st L nst h1' h2' h3' => ?_⟩
      have S3 := S2.new (o := LotSet P w st L) nst
      generalize upd H2 st (LotSet P w st L) = H3 at S3
      refine ⟨st, L, rfl, S3.get 0 rfl, fun p hp => Evl.st_of (S3.ex _ _ (hks p (h1' p hp))), fun L' u pm hs nu => ?_⟩
      have S4 := S3.new (o := .lst (L'.map fun q => V.ref q.1)) nu
      generalize upd H3 u (.lst (L'.map fun q => V.ref q.1)) = H4 at S4
      refine ⟨u, _, rfl, .inl ⟨Evl.sq_of (S4.get 0 rfl), fun t nt => ?_⟩⟩
      have S5 := S4.new (o := .tup (L'.map fun q => V.ref q.1)) nt
      generalize upd H4 t (.tup (L'.map fun q => V.ref q.1)) = H5 at S5
      refine ⟨_, rfl, a, C, dx, _, rfl, S5.get 3 rfl, T.cl, T.nL, (by show 1 < 1000; decide), ?_⟩
      have S6 : Has G _ ((t, .tup (L'.map fun q => V.ref q.1)) :: (u, _) :: (st, _) :: (a, .ins C dx (tf n t)) :: l) := S5.set 3 rfl
      have S7 := S6.drop2.drop2
      exact q _ _ t L' S7.exS S7.sink upd_same ⟨fun p hp => h1' p (pm.mem_iff.mp hp), fun p hp => ((pm.map (·.2)).mem_iff).mpr (h2' p hp), ((pm.map (·.2)).nodup_iff).mpr h3', hs⟩
end
end TW
set_option Elab.async false
set_option linter.all false
set_option maxRecDepth 100000
set_option maxHeartbeats 4000000
namespace TW
open PySem PySem.Spec PyProof.Rows L2
section
variable {P : Program} {w : World} {K : PySem.W.Frag} {mg : Str → Option Value} {base : Heap} {C : Addr}
/-! Table.things, Table.lots, Table.__iter__ -/
theorem sc_Table_things : FnScope ["self"] ["self"] (defScope s_Table_things) := ⟨rfl, rfl, rfl, by decide +kernel, rfl, by decide +kernel, by decide +kernel⟩
def spThings (C : Addr) : Sp := fun vs H Q _ => ∃ (a : Addr) (n : Nat) (L : Lots), vs = [.ref a] ∧ TabAt C H a n L ∧ Q (.int n) H
theorem ok_things {f : Addr} {fd : FuncData} (F : Fun K "things" "Table.things" s_Table_things f fd) (T : TC K mg C) : FnOk P w K mg base CX0 1 f fd ["self"] (spThings C) := by
  refine F.ok sc_Table_things (fun vs H Q E h => ?_) (fun cdv A outer s H vs Q E hr h => ?_)
  · obtain ⟨a, n, L, rfl, _⟩ := h
    rfl
  · obtain ⟨a, n, L, rfl, ⟨dx, l, h1, h2, h3⟩, q⟩ := h
    exact ⟨_, pss_one (ps_ret (pe_fld (pv 0) rfl)), _, rfl, a, C, dx, _, _, rfl, h1, T.cl, T.nT, tf_things n l, q⟩
theorem sc_Table_lots : FnScope ["self"] ["self"] (defScope s_Table_lots) := ⟨rfl, rfl, rfl, by decide +kernel, rfl, by decide +kernel, by decide +kernel⟩
def spLots (C : Addr) : Sp := fun vs H Q _ => ∃ (a : Addr) (n : Nat) (L : Lots), vs = [.ref a] ∧ TabAt C H a n L ∧ ∀ t, H t = none → Q (.ref t) (upd H t (.lst (refs L)))
theorem ok_lots {f : Addr} {fd : FuncData} (F : Fun K "lots" "Table.lots" s_Table_lots f fd) (z : Z mg) (T : TC K mg C) : FnOk P w K mg base CX0 1 f fd ["self"] (spLots C) := by
  refine F.ok sc_Table_lots (fun vs H Q E h => ?_) (fun cdv A outer s H vs Q E hr h => ?_)
  · obtain ⟨a, n, L, rfl, _⟩ := h
    rfl
  · obtain ⟨a, n, L, rfl, ⟨dx, l, h1, h2, h3⟩, q⟩ := h
    exact ⟨_, pss_one (ps_ret (pe_callTy call_list_of (by rfl) z.list (by decide +kernel) (pa_cons (pe_fld (pv 0) rfl) pa_nil))), _, rfl, a, C, dx, _, _, rfl, h1, T.cl, T.nL, tf_lots n l, l, _, rfl, .inr (Evl.st_of h2), q⟩
theorem sc_Table_iter : FnScope ["self"] ["self"] (defScope s_Table_iter) := ⟨rfl, rfl, rfl, by decide +kernel, rfl, by decide +kernel, by decide +kernel⟩
theorem ok_iter {f : Addr} {fd : FuncData} (F : Fun K "__iter__" "Table.__iter__" s_Table_iter f fd) (z : Z mg) (T : TC K mg C) : FnY P w K mg base 1 f fd ["self"] (spIt K C "_lots") :=
  Fun.okY F sc_Table_iter fun cdv A outer s H vs Q hr h => by
    obtain ⟨a, dx, fs, l, zs, rfl, ha, hf, hz, q⟩ := h
    exact ⟨_, pss_one (ps_ret (pe_callB (call_iterT (K := K) (n := s.heap.objs.size)) (by rfl) z.iter (by decide +kernel) (pa_cons (pe_fld (pv 0) rfl) pa_nil))), _, rfl, a, C, dx, _, _, rfl, ha, T.cl, T.nL, hf, l, zs, rfl, hz, q⟩
/-! check_table -/
theorem sc_check_table : FnScope ["table"] ["table"] (defScope s_check_table) := ⟨rfl, rfl, rfl, by decide +kernel, rfl, by decide +kernel, by decide +kernel⟩
def spCheckTable (C : Addr) : Sp := fun vs H Q _ => ∃ (a : Addr) (n : Nat) (L : Lots), vs = [.ref a] ∧ TabAt C H a n L ∧ Q .non H
theorem ok_check_table (D : Dfn K mg "check_table" s_check_table ["table"]) (z : Z mg) (T : TC K mg C) : Ok P w K mg base 1 "check_table" ["table"] (spCheckTable C) := D.ok fun f fd F => by
  refine F.ok sc_check_table (fun vs H Q E h => ?_) (fun cdv A outer s H vs Q E hr h => ?_)
  · obtain ⟨a, n, L, rfl, _⟩ := h
    rfl
  · obtain ⟨a, n, L, rfl, ⟨dx, l, h1, h2, h3⟩, q⟩ := h
    refine ⟨_, (pss_one (ps_if (pt_not (pt_val (pe_callB (C8.call_isC T.ins) (by rfl) z.isinstance (by decide +kernel) (pa_cons (pv 0) (pa_cons (pe_glob (by rfl) T.mg (show RelV (.ref C) (.ref C) from rfl)) pa_nil))))) (pss_one ps_never) pss_nil)), ?_⟩
    exact ⟨_, rfl, a, dx, _, rfl, h1, _, rfl, q⟩
/-! _law_make_table -/
theorem lot_mem {m : Int} {n : Nat} {x : Int} : x ∈ lotOf m n ↔ ∃ k : Nat, k < n ∧ bitB m k = true ∧ x = k := by
  unfold lotOf
  rw [List.mem_map]
  constructor
  · rintro ⟨k, hk, rfl⟩
    obtain ⟨h1, h2⟩ := List.mem_filter.mp hk
    exact ⟨k, List.mem_range.mp h1, h2, rfl⟩
  · rintro ⟨k, h1, h2, rfl⟩
    exact ⟨k, List.mem_filter.mpr ⟨List.mem_range.mpr h1, h2⟩, rfl⟩
theorem lot_asc (m : Int) (n : Nat) : Up (lotOf m n) := by
  unfold lotOf Up
  rw [List.pairwise_map]
  exact (List.pairwise_lt_range.filter _).imp fun h => by omega
theorem lot_ok (m : Int) (n : Nat) : isLot (lotOf m n) (some (n : Int)) = true := by
  unfold isLot
  rw [up_asc (lot_asc m n), Bool.and_true, List.all_eq_true]
  intro x hx
  obtain ⟨k, hk, _, rfl⟩ := lot_mem.mp hx
  rw [Bool.and_eq_true]
  exact ⟨decide_eq_true (by omega), decide_eq_true (by omega)⟩
def TabOf (n : Nat) (ms : List Int) (L : Lots) : Prop := (∀ p ∈ L, ∃ m ∈ ms, p.2 = lotOf m n) ∧ (∀ m ∈ ms, lotOf m n ∈ L.map (·.2)) ∧ (L.map (·.2)).Nodup ∧ L.Pairwise (fun x y => HT.lexLt y.2 x.2 = false)
theorem sc_law_make_table : FnScope ["wide", "masks", "mask"] ["wide", "masks"] (defScope s__law_make_table) := ⟨rfl, rfl, rfl, by decide +kernel, rfl, by decide +kernel, by decide +kernel⟩
def spMakeTable (K : PySem.W.Frag) (C : Addr) : Sp := fun vs H Q _ => ∃ (G : Hp) (l : List (Addr × HO)) (a : Addr) (n : Nat) (ms : List Int), vs = [.int n, .ref a] ∧ Has G H l ∧ SqL K H a (ms.map V.int) ∧ 0 < n ∧ n ≤ 1000 ∧ ms ≠ [] ∧ ms.length ≤ 64 ∧
  ∀ (G' : Hp) (t : Addr) (H' : Hp) (L : Lots), Ex G G' → Has G' H' l → TabAt C G' t n L → TabOf n ms L → Q (.ref t) H'
structure TM (P : Program) (w : World) (K : PySem.W.Frag) (mg : Str → Option Value) (base : Heap) (C f : Addr) (fd : FuncData) : Prop where
  make : Mk K C f
  ok : FnOk P w K mg base CX0 4 f fd ["self", "things", "lots"] (spInit C)
  b : Binds K fd ["self", "things", "lots"] []
theorem ok_make_table {fi : Addr} {fdi : FuncData} (D : Dfn K mg "_law_make_table" s__law_make_table ["wide", "masks"]) (T : TC K mg C) (M : TM P w K mg base C fi fdi) (O_lot_of : Ok P w K mg base 1 "_law_lot_of" ["mask", "wide"] spLotOf) :
    Ok P w K mg base 6 "_law_make_table" ["wide", "masks"] (spMakeTable K C) := D.ok fun f fd F => by
  refine F.ok sc_law_make_table (fun vs H Q E h => ?_) (fun cdv A outer s H vs Q E hr h => ?_)
  · obtain ⟨G0, l0, a, n, ms, rfl, _⟩ := h
    rfl
  · obtain ⟨G0, l0, a, n, ms, rfl, S0, hs, hn, hn', ne, hl, q⟩ := h
    refine ⟨_, (pss_one (ps_ret (pe_make M.make M.ok hr (by rfl) T.mg M.b .nil pass0 (pa_cons (pv 0) (pa_cons (pe_lc (own := [("mask", 2)]) (g := gName 2) rfl sc_law_make_table.nd (pi_list (pv 1)) (blkOk_by (N := ["wide", "masks", "mask"]) (own := [("mask", 2)]) (sc := defScope s__law_make_table) (by decide +kernel)) (fun _ _ _ _ _ => pg_name (i := 2) sc_law_make_table.nd rfl (Or.inl rfl)) (fun _ _ _ _ _ => pts_nil) (fun _ _ _ _ _ => (pe_o O_lot_of (hr.mono (by decide)) (pa_cons (pv 2) (pa_cons (pv 0) pa_nil))))) pa_nil))))), ?_⟩
    refine ⟨_, rfl, _, rfl, a, rfl, ⟨_, hs⟩, fun Dl hD => ?_⟩
    refine lc_list (K := K) (a := a) (xs := ms.map V.int) (fun i H' => Ex H H' ∧ ∃ (G : Hp) (ks : Lots), Ex G0 G ∧ Has G H' ((Dl, .lst (refs ks)) :: l0) ∧ InLots G ks ∧ ks.map (·.2) = (ms.take i).map fun m => lotOf m n) ⟨Evl.Ex.new hD, G0, [], Evl.Ex.refl G0, S0.new hD, fun p hp => absurd hp List.not_mem_nil, rfl⟩ (fun i H' _ p => Evl.ex_l p.1 hs) ?_ ?_
    · rintro i x H1 hi ⟨eH, G, ks, e, S, hk, em⟩
      obtain ⟨m, hm, rfl⟩ := map_get hi
      have lk : ks.length ≤ i := by
        have := congrArg List.length em
        rw [List.length_map, List.length_map, List.length_take] at this
        omega
      have hi2 := (List.getElem?_eq_some_iff.mp hm).1
      refine ⟨rfl, _, rfl, _, rfl, m, n, rfl, by omega, fun t H2 nt e2 ht => ?_⟩
      have S2 := S.newE e2 nt ht
      refine ⟨_, S2.get 1 rfl, szl (by unfold refs; rw [List.length_map]; omega), ?_⟩
      have S3 := S2.sink
      refine ⟨Evl.Ex.mut (eH.trans e2) hD, _, ks ++ [(t, lotOf m n)], e.trans S2.exS, ?_, fun p hp => ?_, ?_⟩
      · unfold refs
        rw [List.map_append]
        exact S3.set 0 rfl
      · rcases List.mem_append.mp hp with h | h
        · exact S2.exS _ _ (hk p h)
        · rw [List.mem_singleton.mp h, upd_same]
      · rw [List.map_append, em, take_snoc hm, List.map_append]
        rfl
    · rintro H1 ⟨eH, G, ks, e, S, hk, em⟩
      rw [List.take_of_length_le (by rw [List.length_map]; exact Nat.le_refl _)] at em
      have lk : ks.length = ms.length := by
        have := congrArg List.length em
        rw [List.length_map, List.length_map] at this
        exact this
      intro x dx nx ndx hne
      have S1 := S.new (o := .own x) ndx
      have nx1 : (upd H1 dx (.own x)) x = none := by rw [upd_ne (Ne.symm hne)]; exact nx
      have S2 := S1.sink.new (o := .ins C dx []) nx1
      have hDl : Dl ≠ x := ne_of_none (S1.get 1 rfl) nx1
      refine ⟨_, _, x, dx, Dl, n, ks, rfl, S2, S2.get 1 rfl, hDl, hk.ex S1.exS, hn, ⟨fun e0 => ne (List.length_eq_zero_iff.mp (by rw [← lk, e0]; rfl)), by omega, fun p hp => ?_⟩, fun G' H' dl L eG S' hdl hL => ⟨rfl, ?_⟩⟩
      · have : p.2 ∈ ks.map (·.2) := List.mem_map_of_mem hp
        rw [em] at this
        obtain ⟨m, _, e3⟩ := List.mem_map.mp this
        rw [← e3]
        exact ⟨lot_ok m n, Nat.le_trans (lot_len m n) hn'⟩
      · have eHG : Ex G0 G' := (e.trans S1.exS).trans eG
        have S8 : Has G' H' ((x, .ins C dx (tf n dl)) :: l0) := S'.drop2
        refine q _ x H' L (eHG.trans S8.exS) S8.sink ⟨dx, dl, upd_same, S8.exS _ _ hdl, fun p hp => S8.exS _ _ (eG _ _ (S1.exS _ _ (hk p (hL.1 p hp))))⟩ ⟨fun p hp => ?_, fun m hm => ?_, hL.2.2⟩
        · have : p.2 ∈ ks.map (·.2) := List.mem_map_of_mem (hL.1 p hp)
          rw [em] at this
          obtain ⟨m, hm, e3⟩ := List.mem_map.mp this
          exact ⟨m, hm, e3.symm⟩
        · have : lotOf m n ∈ ks.map (·.2) := by
            rw [em]
            exact List.mem_map.mpr ⟨m, hm, rfl⟩
          obtain ⟨p, hp, e3⟩ := List.mem_map.mp this
          rw [← e3]
          exact hL.2.1 p hp
end
end TW
set_option Elab.async false
set_option linter.all false
set_option maxRecDepth 100000
set_option maxHeartbeats 4000000
namespace TW
open PySem PySem.Spec PyProof.Rows L2
/-- a walk whose body is any predicate transformer: for the inner loop of a comprehension -/
theorem inner {J : It} {n : Nat} {G : Hp → Prop} {Y : Nat → Hp → V → Hp → Prop} (k : Walk J n G Y) {B : (Hp → Prop) → V → Hp → Prop} {H0 : Hp} {Qd : Hp → Prop} (I : Nat → Hp → Prop) (h0 : I 0 H0) (hG : ∀ i H, i ≤ n → I i H → G H)
    (hs : ∀ i x H H', i < n → I i H → Y i H x H' → B (I (i + 1)) x H') (hd : ∀ H, I n H → Qd H) :
    ∃ W : Nat → Nat → Hp → Prop, (∃ m, W 0 m H0) ∧ ∀ i m H, W i m H → (J.stop i H ∧ Qd H) ∨ (J.go i H ∧ ∃ Nx : Hp → Prop, (∀ H', Nx H' → ∃ m', m' < m ∧ W (i + 1) m' H') ∧ ∀ x H', J.yld i H x H' → B Nx x H') := by
  refine ⟨fun i m H => i ≤ n ∧ I i H ∧ m + i = n, ⟨n, Nat.zero_le _, h0, rfl⟩, fun i m H ⟨hi, p, hm⟩ => ?_⟩
  rcases Nat.lt_or_eq_of_le hi with c | c
  · exact .inr ⟨k.goes i H c (hG i H hi p), I (i + 1), fun H' p' => ⟨m - 1, by omega, c, p', by omega⟩, fun x H' y => hs i x H H' c p (k.yields i H x H' c (hG i H hi p) y)⟩
  · rw [c] at p ⊢
    exact .inl ⟨k.stops H (hG n H (Nat.le_refl _) p), hd H p⟩
theorem pi_tupK {X : Cx} {K : PySem.W.Frag} {tg l : Expr} {tl : TE} (hl : PE X l tl) (h : X.K = K := by rfl) : PI X tg l (iTup K tl) := by
  subst h
  exact pi_tup hl
theorem pi_listK {X : Cx} {K : PySem.W.Frag} {tg l : Expr} {tl : TE} (hl : PE X l tl) (h : X.K = K := by rfl) : PI X tg l (iList K tl) := by
  subst h
  exact pi_list hl
def mt (ns : List Int) (s : Sgn) : Bool := decide ((s.1 : Int) ∈ ns) == s.2
theorem mt_lot {m : Int} {n : Nat} {s : Sgn} (h : s.1 < n) : mt (lotOf m n) s = met m s := by
  unfold mt met
  have : decide ((s.1 : Int) ∈ lotOf m n) = bitB m s.1 := by
    rw [Bool.eq_iff_iff, decide_eq_true_eq, lot_mem]
    constructor
    · rintro ⟨k, _, hb, e⟩
      have : s.1 = k := by omega
      rw [this]
      exact hb
    · intro hb
      exact ⟨s.1, h, hb, rfl⟩
  rw [this]
theorem dec_bl (a b : Bool) : decide (V.bl a = V.bl b) = (a == b) := by cases a <;> cases b <;> rfl
section
variable {P : Program} {w : World} {K : PySem.W.Frag} {mg : Str → Option Value} {base : Heap} {C : Addr}
/-! meets -/
theorem sc_meets : FnScope ["lot", "literal", "thing", "word"] ["lot", "literal"] (defScope s_meets) := ⟨rfl, rfl, rfl, by decide +kernel, rfl, by decide +kernel, by decide +kernel⟩
def spMeets (K : PySem.W.Frag) : Sp := fun vs H Q _ => ∃ (a : Addr) (ns : List Int) (v : V) (s : Sgn), vs = [.ref a, v] ∧ SqT K H a (ns.map V.int) ∧ At H v (dSgn s) ∧ Q (.bl (mt ns s)) H
theorem ok_meets (D : Dfn K mg "meets" s_meets ["lot", "literal"]) : Ok P w K mg base 1 "meets" ["lot", "literal"] (spMeets K) := D.ok fun f fd F => by
  refine F.ok sc_meets (fun vs H Q E h => ?_) (fun cdv A outer s H vs Q E hr h => ?_)
  · obtain ⟨a, ns, v, s, rfl, _⟩ := h
    rfl
  · obtain ⟨a, ns, v, s, rfl, ha, hv, q⟩ := h
    obtain ⟨t, rfl, ht⟩ := hv.sgn
    refine ⟨_, (pss_cons (ps_asg (pv 1) (pg_tup rfl (pgs_cons (pg_name (i := 2) sc_meets.nd rfl (Or.inl rfl)) (pgs_cons (pg_name (i := 3) sc_meets.nd rfl (Or.inl rfl)) pgs_nil))))
      (pss_one (ps_ret (pe_cmpR op_eq (pe_cmpR (op_inK (K := K)) (pv 2) (pv 0) (by rfl)) (pe_cmpR op_eq (pv 3) pe_str (nomark _)) (nomark _))))), ?_⟩
    refine ⟨_, rfl, t, _, rfl, Evl.st_of ht, rfl, _, _, rfl, _, _, rfl, rfl, ?_⟩
    refine ⟨_, rfl, _, rfl, a, _, rfl, .inr ha, rfl, flat_ints ns, ?_⟩
    refine ⟨_, rfl, rfl, rfl, ?_⟩
    rw [inV_int, sw_in, dec_bl]
    exact q
/-! keeps -/
theorem sc_keeps : FnScope ["lot", "rule", "literal"] ["lot", "rule"] (defScope s_keeps) := ⟨rfl, rfl, rfl, by decide +kernel, rfl, by decide +kernel, by decide +kernel⟩
def spKeeps (K : PySem.W.Frag) : Sp := fun vs H Q _ => ∃ (a : Addr) (ns : List Int) (v : V) (b : Bar), vs = [.ref a, v] ∧ SqT K H a (ns.map V.int) ∧ At H v (dBar b) ∧ b.length ≤ 100 ∧ ∀ H', Ex H H' → Q (.bl (b.any (mt ns))) H'
theorem ok_keeps (D : Dfn K mg "keeps" s_keeps ["lot", "rule"]) (z : Z mg) (O_meets : Ok P w K mg base 1 "meets" ["lot", "literal"] (spMeets K)) : Ok P w K mg base 2 "keeps" ["lot", "rule"] (spKeeps K) := D.ok fun f fd F => by
  refine F.ok sc_keeps (fun vs H Q E h => ?_) (fun cdv A outer s H vs Q E hr h => ?_)
  · obtain ⟨a, ns, v, b, rfl, _⟩ := h
    rfl
  · obtain ⟨a, ns, v, b, rfl, ha, hv, hl, q⟩ := h
    obtain ⟨t, ys, rfl, ht, hy⟩ := hv.bar
    have ly : ys.length = b.length := by rw [hy.1, List.length_map]
    refine ⟨_, (pss_one (ps_ret (pe_callB (cr_any rfl) (by rfl) z.any (by decide +kernel) (pa_cons (pe_lc (own := [("literal", 2)]) (g := gName 2) rfl sc_keeps.nd (pi_tup (pv 1)) (blkOk_by (N := ["lot", "rule", "literal"]) (own := [("literal", 2)]) (sc := defScope s_keeps) (by decide +kernel)) (fun _ _ _ _ _ => pg_name (i := 2) sc_keeps.nd rfl (Or.inl rfl)) (fun _ _ _ _ _ => pts_nil) (fun _ _ _ _ _ => (pe_o O_meets hr (pa_cons (pv 0) (pa_cons (pv 2) pa_nil))))) pa_nil)))), ?_⟩
    refine ⟨_, rfl, t, rfl, ⟨_, Evl.st_of ht⟩, fun Dl hD => ?_⟩
    refine lc_tup (K := K) (xs := ys) (fun j H' => Ex H H' ∧ H' Dl = some (.lst ((((b.take j).map (mt ns))).map V.bl))) ⟨Evl.Ex.new hD, by rw [upd_same]; rfl⟩ (fun j H' _ p => Evl.ex_t p.1 (Evl.st_of ht)) ?_ ?_
    · rintro j y H2 hj ⟨e2, h2⟩
      obtain ⟨s, hs, hS⟩ := ats_get hy hj
      refine ⟨rfl, _, rfl, _, rfl, a, ns, y, s, rfl, Evl.ex_t e2 ha, hS.ex e2, _, h2, szl ?_, Evl.Ex.mut e2 hD, ?_⟩
      · rw [List.length_map, List.length_map, List.length_take]
        have := (List.getElem?_eq_some_iff.mp hj).1
        omega
      · rw [upd_same, take_any (mt ns) hs, List.map_append]
        rfl
    · rintro H2 ⟨e2, h2⟩
      rw [List.take_of_length_le (by omega)] at h2
      refine ⟨Dl, _, rfl, Evl.sq_of h2, ?_⟩
      rw [any_id]
      exact q H2 e2
/-! has_rule -/
structure TI (P : Program) (w : World) (K : PySem.W.Frag) (mg : Str → Option Value) (base : Heap) (C f : Addr) (fd : FuncData) : Prop where
  at_ : PySem.W.findIn K (.ref C) "__iter__" = some (some (.ref f))
  fn : PySem.W.isFn K (.ref f) = true
  ok : FnY P w K mg base 1 f fd ["self"] (spIt K C "_lots")
  b : Binds K fd ["self"] []
theorem sc_has_rule : FnScope ["table", "rule", "lot"] ["table", "rule"] (defScope s_has_rule) := ⟨rfl, rfl, rfl, by decide +kernel, rfl, by decide +kernel, by decide +kernel⟩
def hasR (lots : List (List Int)) (b : Bar) : Bool := lots.all fun ns => b.any (mt ns)
def spHasRule (C : Addr) : Sp := fun vs H Q _ => ∃ (a : Addr) (n : Nat) (L : Lots) (v : V) (b : Bar), vs = [.ref a, v] ∧ TabAt C H a n L ∧ At H v (dBar b) ∧ b.length ≤ 100 ∧ ∀ H', Ex H H' → Q (.bl (hasR (L.map (·.2)) b)) H'
theorem refs_get {L : Lots} {i : Nat} {x : V} (h : (refs L)[i]? = some x) : ∃ p, L[i]? = some p ∧ x = V.ref p.1 := by
  unfold refs at h
  rw [List.getElem?_map] at h
  cases e : L[i]? with
  | none => rw [e] at h; cases h
  | some p => rw [e] at h; exact ⟨p, rfl, (Option.some.inj h).symm⟩
theorem refs_len (L : Lots) : (refs L).length = L.length := List.length_map _
theorem ok_has_rule {fi : Addr} {fdi : FuncData} (D : Dfn K mg "has_rule" s_has_rule ["table", "rule"]) (I : TI P w K mg base C fi fdi) (O_keeps : Ok P w K mg base 2 "keeps" ["lot", "rule"] (spKeeps K)) : Ok P w K mg base 3 "has_rule" ["table", "rule"] (spHasRule C) := D.ok fun f fd F => by
  refine F.ok sc_has_rule (fun vs H Q E h => ?_) (fun cdv A outer s H vs Q E hr h => ?_)
  · obtain ⟨a, n, L, v, b, rfl, _⟩ := h
    rfl
  · obtain ⟨a, n, L, v, b, rfl, ⟨dx, l, h1, h2, h3⟩, hv, hl, q⟩ := h
    refine ⟨_, (pss_cons (ps_for PassesOwn.never rfl (pi_own (f := "_lots") (pv 0) I.at_ I.fn I.ok I.b (hr.mono (by decide))) (pg_name (i := 2) sc_has_rule.nd rfl (Or.inl rfl))
      (pss_one (ps_if (pt_not (pt_val (pe_o O_keeps hr (pa_cons (pv 2) (pa_cons (pv 1) pa_nil))))) (pss_one (ps_ret pe_bl)) pss_nil)))
      (pss_one (ps_ret pe_bl))), ?_⟩
    refine ⟨_, rfl, a, dx, _, l, _, rfl, h1, tf_lots n l, Evl.st_of h2, for_tup (K := K) (a := l) (xs := refs L) (fun i σ H' => Ex H H' ∧ hasR ((L.take i).map (·.2)) b = true ∧ ∃ v2, σ = [some (.ref a), some v, v2]) ⟨Evl.Ex.refl H, rfl, none, rfl⟩ (fun i σ H' _ p => Evl.ex_t p.1 (Evl.st_of h2)) ?_ ?_⟩
    · rintro i x σ H1 hi ⟨e1, hk, v2, rfl⟩
      obtain ⟨p, hp, rfl⟩ := refs_get hi
      refine ⟨_, rfl, _, rfl, p.1, p.2, v, b, rfl, Evl.st_of (e1 _ _ (h3 p (List.mem_of_getElem? hp))), hv.ex e1, hl, fun H2 e2 => ⟨_, rfl, ?_⟩⟩
      have kn : hasR ((L.take (i + 1)).map (·.2)) b = (hasR ((L.take i).map (·.2)) b && b.any (mt p.2)) := by
        unfold hasR
        rw [take_snoc hp, List.map_append, List.all_append]
        show (_ && (b.any (mt p.2) && true)) = _
        rw [Bool.and_true]
      cases hq : b.any (mt p.2) with
      | true => exact ⟨e1.trans e2, by rw [kn, hk, hq]; rfl, _, rfl⟩
      | false =>
        have kf : hasR (L.map (·.2)) b = false := by
          unfold hasR
          rw [List.all_eq_false]
          exact ⟨p.2, List.mem_map_of_mem (List.mem_of_getElem? hp), by rw [hq]; decide⟩
        rw [kf] at q
        exact q H2 (e1.trans e2)
    · rintro σ H1 ⟨e1, hk, _⟩
      rw [List.take_of_length_le (by rw [refs_len]; exact Nat.le_refl _)] at hk
      rw [hk] at q
      exact q H1 e1
/-! all_literals, _law_all_signs -/
def allS (n : Nat) : List Sgn := (List.range n).flatMap fun k => [(k, true), (k, false)]
theorem allS_up (n : Nat) : allS (n + 1) = allS n ++ [(n, true), (n, false)] := by
  unfold allS
  rw [List.range_succ, List.flatMap_append]
  rfl
theorem allS_len (n : Nat) : (allS n).length = 2 * n := by
  induction n with
  | zero => rfl
  | succ n ih =>
    rw [allS_up, List.length_append, ih]
    show 2 * n + 2 = _
    omega
def spAllS : Sp := fun vs H Q _ => ∃ (G : Hp) (l : List (Addr × HO)) (n : Nat), vs = [.int n] ∧ Has G H l ∧ n ≤ 1000 ∧ ∀ (G' : Hp) (t : Addr) (xs : List V) (H' : Hp), Ex G G' → Has G' H' ((t, .lst xs) :: l) → Ats G' xs ((allS n).map dSgn) → Q (.ref t) H'
theorem sc_all_literals : FnScope ["things", "thing", "word"] ["things"] (defScope s_all_literals) := ⟨rfl, rfl, rfl, by decide +kernel, rfl, by decide +kernel, by decide +kernel⟩
theorem ok_all_literals (D : Dfn K mg "all_literals" s_all_literals ["things"]) (z : Z mg) : Ok P w K mg base 1 "all_literals" ["things"] spAllS := D.ok fun f fd F => by
  refine F.ok sc_all_literals (fun vs H Q E h => ?_) (fun cdv A outer s H vs Q E hr h => ?_)
  · obtain ⟨G0, l0, n, rfl, _⟩ := h
    rfl
  · obtain ⟨G0, l0, n, rfl, S0, hn, q⟩ := h
    refine ⟨_, (pss_one (ps_ret (pe_lc2 (own := [("thing", 1), ("word", 2)]) (vs1 := [2]) (g := gName 1) (g1 := gName 2) rfl sc_all_literals.nd (pi_range1 (by rfl) z.range (pa_cons (pv 0) pa_nil)) (blkOk_by (N := ["things", "thing", "word"]) (own := [("thing", 1), ("word", 2)]) (sc := defScope s_all_literals) (by decide +kernel)) (by decide)
      (fun _ _ _ _ _ => pg_name (i := 1) sc_all_literals.nd rfl (Or.inl rfl)) (fun _ _ _ _ _ => pts_nil) (fun _ _ _ _ _ => pi_tupK (K := K) (pe_tup (pa_cons pe_str (pa_cons pe_str pa_nil)))) (fun _ _ _ _ _ => pg_name (i := 2) sc_all_literals.nd rfl (Or.inl rfl)) (fun _ _ _ _ _ => pts_nil) (fun _ _ _ _ _ => (pe_tup (pa_cons (pv 1) (pa_cons (pv 2) pa_nil))))))), ?_⟩
    refine ⟨_, rfl, n, rfl, by omega, by omega, fun Dl hD => ?_⟩
    rw [show ((n : Nat) : Int).toNat = n by omega]
    refine inner walk_range (fun i H' => ∃ (G : Hp) (xs : List V), Ex G0 G ∧ Has G H' ((Dl, .lst xs) :: l0) ∧ Ats G xs ((allS i).map dSgn)) ⟨G0, [], Evl.Ex.refl G0, S0.new hD, .nil⟩ (fun _ _ _ _ => True.intro) ?_ ?_
    · rintro i x H1 H2 hi ⟨G, xs, e, S, ha⟩ ⟨rfl, rfl⟩
      refine ⟨rfl, sz (by show 2 ≤ 100000; decide), fun t nt => ?_⟩
      have lx : xs.length ≤ 2 * i := by rw [ha.1, List.length_map, allS_len]; exact Nat.le_refl _
      have S2 := S.new (o := .tup [.str "in", .str "out"]) nt
      generalize upd H2 t (.tup [.str "in", .str "out"]) = H3 at S2
      refine ⟨t, rfl, ⟨_, Evl.st_of (S2.get 0 rfl)⟩, inner (walk_tup (xs := [.str "in", .str "out"])) (fun j H' => ∃ (G' : Hp) (xs' : List V), Ex (upd G t (.tup [.str "in", .str "out"])) G' ∧ Has G' H' ((Dl, .lst xs') :: l0) ∧ Ats G' xs' ((allS i ++ [(i, true), (i, false)].take j).map dSgn)) ⟨_, xs, Evl.Ex.refl _, S2.sink, ?_⟩ (fun j H' _ p => ?_) ?_ ?_⟩
      · rw [List.take_zero, List.append_nil]
        exact ha.ex S2.exS
      · obtain ⟨G', xs', e', S', _⟩ := p
        exact Evl.st_of (S'.ex _ _ (e' _ _ upd_same))
      · rintro j y H4 H5 hj ⟨G', xs', e', S', ha'⟩ ⟨rfl, hy⟩
        have hj2 : j < 2 := hj
        obtain ⟨b, rfl, hb⟩ : ∃ b, y = .str (sw b) ∧ [((i, true) : Sgn), (i, false)][j]? = some (i, b) := by
          have : j = 0 ∨ j = 1 := by omega
          rcases this with rfl | rfl
          · exact ⟨true, (Option.some.inj hy).symm, rfl⟩
          · exact ⟨false, (Option.some.inj hy).symm, rfl⟩
        have lx' : xs'.length ≤ 2 * i + 2 := by
          rw [ha'.1, List.length_map, List.length_append, allS_len, List.length_take]
          have : [((i, true) : Sgn), (i, false)].length = 2 := rfl
          omega
        refine ⟨rfl, _, rfl, _, rfl, sz (by show 2 ≤ 100000; decide), fun u nu => ?_⟩
        have S5 := S'.new (o := .tup [.int (0 + (i : Int)), .str (sw b)]) nu
        have ez : (0 : Int) + (i : Int) = ((i : Nat) : Int) := Int.zero_add _
        refine ⟨xs', S5.get 1 rfl, szl (by omega), _, xs' ++ [.ref u], e'.trans S5.exS, S5.sink.set 0 rfl, ?_⟩
        rw [take_snoc hb, ← List.append_assoc, List.map_append]
        exact (ha'.ex S5.exS).snoc (at_sgn (s := (i, b)) (by rw [upd_same, ez]))
      · rintro H4 ⟨G', xs', e', S', ha'⟩
        refine ⟨G', xs', (e.trans S2.exS).trans e', S', ?_⟩
        rw [allS_up]
        exact ha'
    · rintro H1 ⟨G, xs, e, S, ha⟩
      exact q G Dl xs H1 e S ha
theorem sc_law_all_signs : FnScope ["wide", "row", "k"] ["wide"] (defScope s__law_all_signs) := ⟨rfl, rfl, rfl, by decide +kernel, rfl, by decide +kernel, by decide +kernel⟩
theorem ok_all_signs (D : Dfn K mg "_law_all_signs" s__law_all_signs ["wide"]) (z : Z mg) : Ok P w K mg base 1 "_law_all_signs" ["wide"] spAllS := D.ok fun f fd F => by
  refine F.ok sc_law_all_signs (fun vs H Q E h => ?_) (fun cdv A outer s H vs Q E hr h => ?_)
  · obtain ⟨G0, l0, n, rfl, _⟩ := h
    rfl
  · obtain ⟨G0, l0, n, rfl, S0, hn, q⟩ := h
    refine ⟨_, (pss_cons (ps_set (i := 1) sc_law_all_signs.nd rfl (Or.inl rfl) (pe_lst pa_nil))
      (pss_cons (ps_for PassesOwn.never rfl (pi_range1 (by rfl) z.range (pa_cons (pv 0) pa_nil)) (pg_name (i := 2) sc_law_all_signs.nd rfl (Or.inl rfl))
      (pss_cons (ps_expr (pe_bm PySem.F.plainAttrs_list PySem.F.slot_list_append PySem.F.type_list_append mt_append (pv 1) (pa_cons (pe_tup (pa_cons (pv 2) (pa_cons pe_str pa_nil))) pa_nil)))
      (pss_one (ps_expr (pe_bm PySem.F.plainAttrs_list PySem.F.slot_list_append PySem.F.type_list_append mt_append (pv 1) (pa_cons (pe_tup (pa_cons (pv 2) (pa_cons pe_str pa_nil))) pa_nil))))))
      (pss_one (ps_ret (pv 1))))), ?_⟩
    refine ⟨sz (by show 0 ≤ 100000; decide), fun Dl hD => ?_⟩
    refine ⟨_, rfl, n, rfl, by omega, by omega, ?_⟩
    rw [show ((n : Nat) : Int).toNat = n by omega]
    refine for_range (lo := 0) (n := n) (fun i σ H' => ∃ (v2 : Option V) (G : Hp) (xs : List V), σ = [some (.int n), some (.ref Dl), v2] ∧ Ex G0 G ∧ Has G H' ((Dl, .lst xs) :: l0) ∧ Ats G xs ((allS i).map dSgn)) ⟨none, G0, [], rfl, Evl.Ex.refl G0, S0.new hD, .nil⟩ ?_ ?_
    · rintro i σ H1 hi ⟨v2, G, xs, rfl, e, S, ha⟩
      have lx : xs.length ≤ 2 * i := by rw [ha.1, List.length_map, allS_len]; exact Nat.le_refl _
      have ez : (0 : Int) + (i : Int) = ((i : Nat) : Int) := Int.zero_add _
      refine ⟨_, rfl, .inl ⟨rfl, _, Evl.sq_of (S.get 0 rfl)⟩, _, rfl, sz (by show 2 ≤ 100000; decide), fun u nu => ?_⟩
      have S1 := S.new (o := .tup [.int (0 + (i : Int)), .str "in"]) nu
      have a1 : At (upd G u (.tup [.int (0 + (i : Int)), .str "in"])) (.ref u) (dSgn (i, true)) := at_sgn (s := (i, true)) (by rw [upd_same, ez]; rfl)
      refine ⟨Dl, xs, _, rfl, rfl, S1.get 1 rfl, szl (by omega), ?_⟩
      have S2 : Has _ _ ((Dl, .lst (xs ++ [.ref u])) :: l0) := S1.sink.set 0 rfl
      generalize upd (upd H1 u (.tup [.int (0 + (i : Int)), .str "in"])) Dl (.lst (xs ++ [.ref u])) = H2 at S2
      refine ⟨_, rfl, .inl ⟨rfl, _, Evl.sq_of (S2.get 0 rfl)⟩, _, rfl, sz (by show 2 ≤ 100000; decide), fun t nt => ?_⟩
      have S3 := S2.new (o := .tup [.int (0 + (i : Int)), .str "out"]) nt
      refine ⟨Dl, _, _, rfl, rfl, S3.get 1 rfl, szl (by rw [List.length_append, List.length_singleton]; omega), ?_⟩
      refine ⟨_, _, _, rfl, (e.trans S1.exS).trans S3.exS, S3.sink.set 0 rfl, ?_⟩
      rw [allS_up, show ([(i, true), (i, false)] : List Sgn) = [(i, true)] ++ [(i, false)] from rfl, ← List.append_assoc, List.map_append, List.map_append]
      exact ((((ha.ex S1.exS).snoc a1).ex S3.exS)).snoc (at_sgn (s := (i, false)) (by rw [upd_same, ez]; rfl))
    · rintro σ H1 ⟨v2, G, xs, rfl, e, S, ha⟩
      exact ⟨_, rfl, q G Dl xs H1 e S ha⟩
end
end TW
set_option Elab.async false
set_option linter.all false
set_option maxRecDepth 100000
set_option maxHeartbeats 4000000
namespace TW
open PySem PySem.Spec PyProof.Rows L2
open PySem.W (AllAlike Sortable dataLt dataLe)
/-! data of rules -/
theorem lay_sgn (s : Sgn) : (dSgn s).canLay0 = true := by
  have h : ∀ b, (PyData.str (sw b)).canLay0 = true := fun b => by cases b <;> decide +kernel
  show (true && ((PyData.str (sw s.2)).canLay0 && true)) = true
  rw [h]
  rfl
theorem lay_sgns : ∀ b : Bar, PyData.canLayAll0 (b.map dSgn) = true
  | [] => rfl
  | s :: b => by
    show ((dSgn s).canLay0 && PyData.canLayAll0 (b.map dSgn)) = true
    rw [lay_sgn, lay_sgns b]
    rfl
theorem lay_bars : ∀ bs : List Bar, PyData.canLayAll0 (bs.map dBar) = true
  | [] => rfl
  | b :: bs => by
    show ((dBar b).canLay0 && PyData.canLayAll0 (bs.map dBar)) = true
    rw [show (dBar b).canLay0 = true from lay_sgns b, lay_bars bs]
    rfl
theorem depth_all {n : Nat} : ∀ {ds : List PyData}, (∀ d ∈ ds, d.depth ≤ n) → PyData.depthAll ds ≤ n
  | [], _ => Nat.zero_le _
  | d :: ds, h => by
    have h1 := h d List.mem_cons_self
    have h2 := depth_all fun x hx => h x (List.mem_cons_of_mem _ hx)
    simp only [PyData.depthAll]
    omega
theorem dep_bar (b : Bar) : (dBar b).depth ≤ 2 := by
  unfold dBar
  have := depth_all (n := 1) (ds := b.map dSgn) fun d hd => by
    obtain ⟨s, _, rfl⟩ := List.mem_map.mp hd
    exact dep_sgn s
  simp only [PyData.depth]
  omega
theorem shaped_bar (b : Bar) : SeqAt.shaped (dBar b) = true := by
  unfold SeqAt.shaped
  rw [Bool.and_eq_true, decide_eq_true_eq]
  exact ⟨lay_sgns b, Nat.le_trans (dep_bar b) (by decide)⟩
theorem shaped_bars (bs : List Bar) : SeqAt.shaped (dBars bs) = true := by
  unfold SeqAt.shaped
  rw [Bool.and_eq_true, decide_eq_true_eq]
  refine ⟨lay_bars bs, ?_⟩
  unfold dBars
  have := depth_all (n := 2) (ds := bs.map dBar) fun d hd => by
    obtain ⟨s, _, rfl⟩ := List.mem_map.mp hd
    exact dep_bar s
  simp only [PyData.depth]
  omega
theorem eqv_sgn (s t : Sgn) : PyData.eqv (dSgn s) (dSgn t) = decide (s = t) := by
  obtain ⟨a, b⟩ := s
  obtain ⟨c, d⟩ := t
  have e1 : PyData.eqv (dSgn (a, b)) (dSgn (c, d)) = ((a : Int) == (c : Int) && (sw b == sw d && true)) := rfl
  have e2 : (sw b == sw d) = (b == d) := by cases b <;> cases d <;> decide +kernel
  rw [e1, e2, Bool.and_true, Bool.eq_iff_iff, decide_eq_true_eq, Bool.and_eq_true, beq_iff_eq, beq_iff_eq, Prod.mk.injEq]
  constructor
  · rintro ⟨h, rfl⟩
    exact ⟨by omega, rfl⟩
  · rintro ⟨rfl, rfl⟩
    exact ⟨rfl, rfl⟩
theorem eqv_one (s t : Sgn) : PyData.eqv (dBar [s]) (dBar [t]) = decide (s = t) := by
  show (PyData.eqv (dSgn s) (dSgn t) && true) = _
  rw [Bool.and_true, eqv_sgn]
theorem alike_bar : ∀ a b : Bar, PySem.W.alikeAll (a.map dSgn) (b.map dSgn) = true
  | [], b => by simp [PySem.W.alikeAll]
  | s :: a, [] => by simp [PySem.W.alikeAll]
  | s :: a, t :: b => by
    rw [List.map_cons, List.map_cons, PySem.W.alikeAll, alike_sgn, alike_bar a b]
    rfl
theorem bars_sort {bs : List Bar} (h : ∀ b ∈ bs, b ≠ []) : AllAlike (bs.map dBar) ∧ Sortable (bs.map dBar) := by
  refine ⟨fun d hd d' hd' => ?_, .inl fun d hd => ?_⟩
  · obtain ⟨a, _, rfl⟩ := List.mem_map.mp hd
    obtain ⟨b, _, rfl⟩ := List.mem_map.mp hd'
    unfold dBar
    rw [PySem.W.alike]
    exact alike_bar a b
  · obtain ⟨b, hb, rfl⟩ := List.mem_map.mp hd
    cases b with
    | nil => exact absurd rfl (h _ hb)
    | cons s b => exact ⟨_, _, rfl⟩
theorem ats_zip {H : Hp} {xs : List V} {ds : List PyData} (h : Ats H xs ds) : (xs.zip ds).map (·.1) = xs ∧ (xs.zip ds).map (·.2) = ds ∧ ∀ b ∈ xs.zip ds, At H b.1 b.2 := by
  refine ⟨List.map_fst_zip (by rw [h.1]; exact Nat.le_refl _), List.map_snd_zip (by rw [h.1]; exact Nat.le_refl _), fun b hb => ?_⟩
  obtain ⟨i, hi⟩ := List.mem_iff_getElem?.mp hb
  rw [List.getElem?_zip_eq_some] at hi
  exact h.2 i _ _ hi.1 hi.2
/-! what the program finds -/
def singleS (lots : List (List Int)) (n : Nat) : List Sgn := (allS n).filter fun s => hasR lots [s]
def opensS (lots : List (List Int)) (n : Nat) : List Sgn := (allS n).filter fun s => !hasR lots [s]
def pairsAt (os : List Sgn) (low : Sgn) : List Bar := (os.filter fun high => decide (low.1 < high.1)).map fun high => [low, high]
def rulesU (lots : List (List Int)) (n : Nat) : List Bar := (singleS lots n).map (fun s => [s]) ++ (((opensS lots n).flatMap (pairsAt (opensS lots n))).filter (hasR lots))
def rulesD (lots : List (List Int)) (n : Nat) : List PyData := ((rulesU lots n).map dBar).mergeSort dLe
theorem rulesU_ne {lots : List (List Int)} {n : Nat} : ∀ b ∈ rulesU lots n, b ≠ [] := fun b hb e => by
  subst e
  unfold rulesU pairsAt at hb
  rcases List.mem_append.mp hb with h | h
  · obtain ⟨s, _, e⟩ := List.mem_map.mp h
    cases e
  · obtain ⟨s, _, h2⟩ := List.mem_flatMap.mp (List.mem_filter.mp h).1
    obtain ⟨t, _, e⟩ := List.mem_map.mp h2
    cases e
theorem in_single {lots : List (List Int)} {n : Nat} {s : Sgn} (h : s ∈ allS n) : (!((singleS lots n).map fun t => dBar [t]).any fun z => PyData.eqv z (dBar [s])) = !hasR lots [s] := by
  congr 1
  rw [List.any_map, Bool.eq_iff_iff, List.any_eq_true]
  constructor
  · rintro ⟨t, ht, e⟩
    have e' : PyData.eqv (dBar [t]) (dBar [s]) = true := e
    rw [eqv_one, decide_eq_true_eq] at e'
    subst e'
    exact (List.mem_filter.mp ht).2
  · intro hq
    refine ⟨s, List.mem_filter.mpr ⟨h, hq⟩, ?_⟩
    show PyData.eqv (dBar [s]) (dBar [s]) = true
    rw [eqv_one, decide_eq_true_eq]
theorem pairsAt_len (os : List Sgn) (low : Sgn) : (pairsAt os low).length ≤ os.length := by
  unfold pairsAt
  rw [List.length_map]
  exact List.length_filter_le _ _
theorem flat_len {α β : Type} {f : α → List β} {k : Nat} : ∀ {l : List α}, (∀ x ∈ l, (f x).length ≤ k) → (l.flatMap f).length ≤ l.length * k
  | [], _ => by simp
  | x :: l, h => by
    have h1 := h x List.mem_cons_self
    have h2 := flat_len (l := l) fun y hy => h y (List.mem_cons_of_mem _ hy)
    rw [List.flatMap_cons, List.length_append, List.length_cons, Nat.succ_mul]
    omega
section
variable {X : Cx} {K : PySem.W.Frag}
theorem op_notInDK (hu : X.A.units + 65 < cLine) (h : X.K = K := by rfl) : OpR X (compareOp .NotIn) (rNotInD K) := by
  subst h
  exact op_notInD hu
end
section
variable {P : Program} {w : World} {K : PySem.W.Frag} {mg : Str → Option Value} {base : Heap} {C : Addr}
structure TG (P : Program) (w : World) (K : PySem.W.Frag) (mg : Str → Option Value) (base : Heap) (C p g : Addr) (fd : FuncData) (nm : Str) (sp : Sp) : Prop where
  at_ : PropOf K C nm p g
  ok : FnOk P w K mg base CX0 1 g fd ["self"] sp
  b : Binds K fd ["self"] []
theorem sc_rules_of : FnScope ["table", "literals", "single", "open_literals", "pairs", "literal", "low", "high", "pair"] ["table"] (defScope s_rules_of) := ⟨rfl, rfl, rfl, by decide +kernel, rfl, by decide +kernel, by decide +kernel⟩
def spRulesOf (C : Addr) : Sp := fun vs H Q _ => ∃ (G : Hp) (l : List (Addr × HO)) (a : Addr) (n : Nat) (L : Lots), vs = [.ref a] ∧ Has G H l ∧ TabAt C G a n L ∧ n ≤ 50 ∧
  ∀ (G' : Hp) (t : Addr) (xs : List V) (H' : Hp), Ex G G' → Has G' H' ((t, .lst xs) :: l) → Ats G' xs (rulesD (L.map (·.2)) n) → Q (.ref t) H'
theorem fn_rules_of {f gp gf : Addr} {fd gfd : FuncData} (F : Fun K "rules_of" "rules_of" s_rules_of f fd) (z : Z mg) (T : TC K mg C) (PT : TG P w K mg base C gp gf gfd "things" (spThings C)) (O_check_table : Ok P w K mg base 1 "check_table" ["table"] (spCheckTable C))
    (O_all_literals : Ok P w K mg base 1 "all_literals" ["things"] spAllS) (O_has_rule : Ok P w K mg base 3 "has_rule" ["table", "rule"] (spHasRule C)) : FnOk P w K mg base CX0 5 f fd ["table"] (spRulesOf C) := by
  refine F.ok sc_rules_of (fun vs H Q E h => ?_) (fun cdv A outer s H vs Q E hr h => ?_)
  · obtain ⟨G0, l0, a, n, L, rfl, _⟩ := h
    rfl
  · obtain ⟨G0, l0, a, n, L, rfl, S0, tab, hn, q⟩ := h
    have hu : (A.deeper (envOfC "rules_of" (defScope s_rules_of) s.heap.objs.size f cdv)).units + 65 < cLine := by
      have := hr.un
      omega
    refine ⟨_, (pss_cons (ps_expr (pe_o O_check_table (hr.mono (by decide)) (pa_cons (pv 0) pa_nil)))
      (pss_cons (ps_set (i := 1) sc_rules_of.nd rfl (Or.inl rfl) (pe_o O_all_literals (hr.mono (by decide)) (pa_cons (pe_prop (pv 0) T.cl PT.at_ PT.ok (hr.mono (by decide)) PT.b .nil pass0 rfl) pa_nil)))
      (pss_cons (ps_set (i := 2) sc_rules_of.nd rfl (Or.inr rfl) (pe_lc (own := [("literal", 5)]) (g := gName 5) rfl sc_rules_of.nd (pi_list (pv 1)) (blkOk_by (N := ["table", "literals", "single", "open_literals", "pairs", "literal", "low", "high", "pair"]) (own := [("literal", 5)]) (sc := defScope s_rules_of) (by decide +kernel)) (fun _ _ _ _ _ => pg_name (i := 5) sc_rules_of.nd rfl (Or.inl rfl)) (fun _ _ _ _ _ => pts_one (pt_val (pe_o O_has_rule (hr.mono (by decide)) (pa_cons (pv 0) (pa_cons (pe_tup (pa_cons (pv 5) pa_nil)) pa_nil))))) (fun _ _ _ _ _ => (pe_tup (pa_cons (pv 5) pa_nil)))))
      (pss_cons (ps_set (i := 3) sc_rules_of.nd rfl (Or.inr rfl) (pe_lc (own := [("literal", 5)]) (g := gName 5) rfl sc_rules_of.nd (pi_list (pv 1)) (blkOk_by (N := ["table", "literals", "single", "open_literals", "pairs", "literal", "low", "high", "pair"]) (own := [("literal", 5)]) (sc := defScope s_rules_of) (by decide +kernel)) (fun _ _ _ _ _ => pg_name (i := 5) sc_rules_of.nd rfl (Or.inl rfl)) (fun _ _ _ _ _ => pts_one (pt_cmpR (op_notInDK (K := K) hu) (pe_tup (pa_cons (pv 5) pa_nil)) (pv 2) (by rfl))) (fun _ _ _ _ _ => (pv 5))))
      (pss_cons (ps_setLc2 (i := 4) (own := [("low", 6), ("high", 7)]) (vs1 := [7]) (g := gName 6) (g1 := gName 7) rfl sc_rules_of.nd rfl rfl (sw_true rfl rfl rfl (by decide +kernel)) (pi_list (pv 3)) (blkOk_by (N := ["table", "literals", "single", "open_literals", "pairs", "literal", "low", "high", "pair"]) (own := [("low", 6), ("high", 7)]) (sc := defScope s_rules_of) (by decide +kernel)) (by decide)
        (fun _ _ _ _ _ => pg_name (i := 6) sc_rules_of.nd rfl (Or.inl rfl)) (fun _ _ _ _ _ => pts_nil) (fun _ _ _ _ _ => pi_listK (K := K) (pv 3)) (fun _ _ _ _ _ => pg_name (i := 7) sc_rules_of.nd rfl (Or.inl rfl)) (fun _ _ _ _ _ => pts_one (pt_cmpR op_lt (pe_ix (ix_any (K := K)) (pv 6) pe_int (fun _ _ => rfl)) (pe_ix (ix_any (K := K)) (pv 7) pe_int (fun _ _ => rfl)) (nomark _))) (fun _ _ _ _ _ => (pe_tup (pa_cons (pv 6) (pa_cons (pv 7) pa_nil)))))
      (pss_one (ps_ret (pe_callB (cr_sortE (K := K) hr.units) (by rfl) z.sorted (by decide +kernel) (pa_cons (pe_op op_cat (pv 2) (pe_lc (own := [("pair", 8)]) (g := gName 8) rfl sc_rules_of.nd (pi_list (pv 4)) (blkOk_by (N := ["table", "literals", "single", "open_literals", "pairs", "literal", "low", "high", "pair"]) (own := [("pair", 8)]) (sc := defScope s_rules_of) (by decide +kernel)) (fun _ _ _ _ _ => pg_name (i := 8) sc_rules_of.nd rfl (Or.inl rfl)) (fun _ _ _ _ _ => pts_one (pt_val (pe_o O_has_rule (hr.mono (by decide)) (pa_cons (pv 0) (pa_cons (pv 8) pa_nil))))) (fun _ _ _ _ _ => (pv 8)))) pa_nil))))))))), ?_⟩
    obtain ⟨dx, tl, ha, hl, hL⟩ := id tab
    have tH : ∀ {H' : Hp}, Ex G0 H' → TabAt C H' a n L := fun e => tab.ex e
    refine ⟨_, rfl, a, n, L, rfl, tH S0.ex, ?_⟩
    refine ⟨_, rfl, a, dx, _, rfl, S0.ex _ _ ha, a, n, L, rfl, tH S0.ex, G0, l0, n, rfl, S0, by omega, fun G1 t1 x1 H1 e1 S1' a1 => ?_⟩
    have S1 := S1'.sink
    have e1' := e1.trans S1'.exS
    have a1' := a1.ex S1'.exS
    have ht1 : (upd G1 t1 (.lst x1)) t1 = some (.lst x1) := upd_same
    generalize upd G1 t1 (.lst x1) = G2 at S1 e1' a1' ht1
    have lx1 : x1.length = 2 * n := by rw [a1'.1, List.length_map, allS_len]
    have al : (allS n).length = 2 * n := allS_len n
    -- single
    refine ⟨_, rfl, t1, rfl, ⟨_, Evl.sq_of (S1.ex _ _ ht1)⟩, fun D1 nD1 => ?_⟩
    refine lc_list (K := K) (a := t1) (xs := x1) (fun i H' => ∃ (G : Hp) (ys : List V), Ex G2 G ∧ Has G H' ((D1, .lst ys) :: l0) ∧ Ats G ys ((((allS n).take i).filter fun s => hasR (L.map (·.2)) [s]).map fun s => dBar [s])) ⟨G2, [], Evl.Ex.refl _, S1.new nD1, .nil⟩ (fun i H' _ p => by
      obtain ⟨G, ys, e, S, _⟩ := p
      exact Evl.sq_of (S.ex _ _ (e _ _ ht1))) ?_ ?_
    · rintro i x H3 hi ⟨G, ys, e, S, hy⟩
      obtain ⟨s, hs, hS⟩ := ats_get a1' hi
      have ly : ys.length ≤ 2 * n := by
        rw [hy.1, List.length_map, ← al]
        exact filt_len _ _ _
      refine ⟨rfl, _, rfl, _, rfl, sz (by show 1 ≤ 100000; decide), fun u nu => ?_⟩
      have S2 := S.new (o := .tup [x]) nu
      have a2 : At (upd G u (.tup [x])) (.ref u) (dBar [s]) := At.mkT upd_same (.cons ((hS.ex e).ex S2.exS) .nil)
      refine ⟨a, n, L, _, [s], rfl, tH ((((e1'.trans e).trans S2.exS)).trans S2.sink.ex), a2.ex S2.sink.ex, by show 1 ≤ 100; decide, fun H5 e5 => ⟨_, rfl, ?_⟩⟩
      have S3 := S2.sink.go e5
      cases hq : hasR (L.map (·.2)) [s] with
      | true =>
        refine ⟨_, rfl, sz (by show 1 ≤ 100000; decide), fun u2 nu2 => ?_⟩
        have S4 := S3.new (o := .tup [x]) nu2
        refine ⟨_, S4.get 1 rfl, szl (by omega), _, ys ++ [.ref u2], (e.trans S2.exS).trans S4.exS, S4.sink.set 0 rfl, ?_⟩
        rw [filt_yes (f := fun s => hasR (L.map (·.2)) [s]) hs hq, List.map_append]
        exact ((hy.ex S2.exS).ex S4.exS).snoc (At.mkT upd_same (.cons (((hS.ex e).ex S2.exS).ex S4.exS) .nil))
      | false =>
        refine ⟨_, ys, e.trans S2.exS, S3, ?_⟩
        rw [filt_no (f := fun s => hasR (L.map (·.2)) [s]) hs hq]
        exact hy.ex S2.exS
    · rintro H3 ⟨G, y1, e, S, hy⟩
      rw [List.take_of_length_le (by omega)] at hy
      have S4 := S.sink
      have e4 := e.trans S.exS
      have y1' := hy.ex S.exS
      have hD1 : (upd G D1 (.lst y1)) D1 = some (.lst y1) := upd_same
      generalize upd G D1 (.lst y1) = G4 at S4 e4 y1' hD1
      have ly1 : y1.length ≤ 2 * n := by
        rw [hy.1, List.length_map, ← al]
        exact List.length_filter_le _ _
      -- open_literals
      refine ⟨_, rfl, t1, rfl, ⟨_, Evl.sq_of (S4.ex _ _ (e4 _ _ ht1))⟩, fun D2 nD2 => ?_⟩
      refine lc_list (K := K) (a := t1) (xs := x1) (fun i H' => ∃ (G : Hp) (ys : List V), Ex G4 G ∧ Has G H' ((D2, .lst ys) :: l0) ∧ Ats G ys ((((allS n).take i).filter fun s => !hasR (L.map (·.2)) [s]).map dSgn)) ⟨G4, [], Evl.Ex.refl _, S4.new nD2, .nil⟩ (fun i H' _ p => by
        obtain ⟨G, ys, e, S, _⟩ := p
        exact Evl.sq_of (S.ex _ _ (e _ _ (e4 _ _ ht1)))) ?_ ?_
      · rintro i x H5 hi ⟨G, ys, e, S, hy⟩
        obtain ⟨s, hs, hS⟩ := ats_get a1' hi
        have ly : ys.length ≤ 2 * n := by
          rw [hy.1, List.length_map, ← al]
          exact filt_len _ _ _
        refine ⟨rfl, _, rfl, sz (by show 1 ≤ 100000; decide), fun u nu => ?_⟩
        have S2 := S.new (o := .tup [x]) nu
        have hSG := ((hS.ex e4).ex e).ex S2.exS
        have a2 : At (upd G u (.tup [x])) (.ref u) (dBar [s]) := At.mkT upd_same (.cons hSG .nil)
        have eds : (singleS (L.map (·.2)) n).map (fun s => dBar [s]) = ((singleS (L.map (·.2)) n).map fun s => [s]).map dBar := by
          rw [List.map_map]
          rfl
        have ad : At G4 (.ref D1) (.list ((singleS (L.map (·.2)) n).map fun s => dBar [s])) := At.mkL hD1 y1'
        refine ⟨_, rfl, dBar [s], (singleS (L.map (·.2)) n).map (fun s => dBar [s]), (a2.ex S2.sink.ex).dp, (((ad.ex e).ex S2.exS).ex S2.sink.ex).dp, shaped_bar _, by rw [eds]; exact shaped_bars _, _, rfl, ?_⟩
        rw [in_single (List.mem_of_getElem? hs)]
        have S3 := S2.sink
        cases hq : (!hasR (L.map (·.2)) [s]) with
        | true =>
          refine ⟨_, rfl, _, S3.get 0 rfl, szl (by omega), _, ys ++ [x], e.trans S2.exS, S3.set 0 rfl, ?_⟩
          rw [filt_yes (f := fun s => !hasR (L.map (·.2)) [s]) hs hq, List.map_append]
          exact (hy.ex S2.exS).snoc hSG
        | false =>
          refine ⟨_, ys, e.trans S2.exS, S3, ?_⟩
          rw [filt_no (f := fun s => !hasR (L.map (·.2)) [s]) hs hq]
          exact hy.ex S2.exS
      · rintro H5 ⟨G, y2, e, S, hy2⟩
        rw [List.take_of_length_le (by omega)] at hy2
        have S6 := S.sink
        have e6 := e4.trans (e.trans S.exS)
        have y1'' := (y1'.ex e).ex S.exS
        have hD1' := S.exS _ _ (e _ _ hD1)
        have y2' : Ats _ y2 ((opensS (L.map (·.2)) n).map dSgn) := hy2.ex S.exS
        have hD2 : (upd G D2 (.lst y2)) D2 = some (.lst y2) := upd_same
        generalize upd G D2 (.lst y2) = G6 at S6 e6 y2' hD2 y1'' hD1'
        have lo : (opensS (L.map (·.2)) n).length ≤ 2 * n := by
          rw [← al]
          exact List.length_filter_le _ _
        have ly2 : y2.length = (opensS (L.map (·.2)) n).length := by rw [y2'.1, List.length_map]
        generalize hos : opensS (L.map (·.2)) n = os at y2' lo ly2
        -- pairs
        refine ⟨_, rfl, D2, rfl, ⟨_, Evl.sq_of (S6.ex _ _ hD2)⟩, fun D3 nD3 => ?_⟩
        refine inner (walk_list (K := K) (xs := y2)) (fun i H' => ∃ (G : Hp) (ps : List V), Ex G6 G ∧ Has G H' ((D3, .lst ps) :: l0) ∧ Ats G ps (((os.take i).flatMap (pairsAt os)).map dBar)) ⟨G6, [], Evl.Ex.refl _, S6.new nD3, .nil⟩ (fun i H' _ p => by
          obtain ⟨G, ps, e, S, _⟩ := p
          exact Evl.sq_of (S.ex _ _ (e _ _ hD2))) ?_ ?_
        · rintro i x H7 H8 hi ⟨G, ps, e, S, hp⟩ ⟨rfl, hx⟩
          obtain ⟨low, hlow, hSlow⟩ := ats_get y2' hx
          obtain ⟨tl', rfl, htl⟩ := hSlow.sgn
          refine ⟨rfl, _, rfl, D2, rfl, ⟨_, Evl.sq_of (S.ex _ _ (e _ _ hD2))⟩, inner (walk_list (K := K) (xs := y2)) (fun j H' => ∃ (G' : Hp) (ps' : List V), Ex G G' ∧ Has G' H' ((D3, .lst ps') :: l0) ∧ Ats G' ps' (((os.take i).flatMap (pairsAt os) ++ ((os.take j).filter fun high => decide (low.1 < high.1)).map fun high => [low, high]).map dBar)) ⟨G, ps, Evl.Ex.refl _, S, ?_⟩ (fun j H' _ p => ?_) ?_ ?_⟩
          · show Ats G ps (((os.take i).flatMap (pairsAt os) ++ []).map dBar)
            rw [List.append_nil]
            exact hp
          · obtain ⟨G', ps', e', S', _⟩ := p
            exact Evl.sq_of (S'.ex _ _ (e' _ _ (e _ _ hD2)))
          · rintro j y H9 H10 hj ⟨G', ps', e', S', hp'⟩ ⟨rfl, hy⟩
            obtain ⟨high, hhigh, hSh⟩ := ats_get y2' hy
            obtain ⟨th, rfl, hth⟩ := hSh.sgn
            have up : ∀ {b o}, G6 b = some o → H10 b = some o := fun h => S'.ex _ _ (e' _ _ (e _ _ h))
            have lps : ps'.length ≤ 100 * 100 + 100 := by
              rw [hp'.1, List.length_map, List.length_append, List.length_map]
              have h1 := flat_len (f := pairsAt os) (k := 100) (l := os.take i) fun s _ => Nat.le_trans (pairsAt_len os s) (by omega)
              have h2 := filt_len (fun high : Sgn => decide (low.1 < high.1)) os j
              have h3 : (os.take i).length ≤ 100 := by rw [List.length_take]; omega
              have h4 := Nat.mul_le_mul_right 100 h3
              omega
            refine ⟨rfl, _, rfl, .inr ⟨tl', _, 0, .int low.1, rfl, rfl, Evl.st_of (up htl), rfl, _, rfl, .inr ⟨th, _, 0, .int high.1, rfl, rfl, Evl.st_of (up hth), rfl, _, _, rfl, rfl, _, rfl, ?_⟩⟩⟩
            rw [show decide ((low.1 : Int) < (high.1 : Int)) = decide (low.1 < high.1) by rw [Bool.eq_iff_iff, decide_eq_true_eq, decide_eq_true_eq]; omega]
            cases hq : decide (low.1 < high.1) with
            | true =>
              refine ⟨_, rfl, _, rfl, sz (by show 2 ≤ 100000; decide), fun u nu => ?_⟩
              have S9 := S'.new (o := .tup [.ref tl', .ref th]) nu
              refine ⟨_, S9.get 1 rfl, szl (by omega), _, ps' ++ [.ref u], e'.trans S9.exS, S9.sink.set 0 rfl, ?_⟩
              have e9 : ∀ (X : List Bar) (Y : List Sgn), (X ++ (Y ++ [high]).map fun high => [low, high]).map dBar = (X ++ Y.map fun high => [low, high]).map dBar ++ [dBar [low, high]] := fun X Y => by simp only [List.map_append, List.append_assoc, List.map_cons, List.map_nil]
              rw [filt_yes (f := fun high : Sgn => decide (low.1 < high.1)) hhigh hq, e9]
              exact (hp'.ex S9.exS).snoc (At.mkT upd_same (.cons (((hSlow.ex e).ex e').ex S9.exS) (.cons (((hSh.ex e).ex e').ex S9.exS) .nil)))
            | false =>
              refine ⟨G', ps', e', S', ?_⟩
              rw [filt_no (f := fun high : Sgn => decide (low.1 < high.1)) hhigh hq]
              exact hp'
          · rintro H9 ⟨G', ps', e', S', hp'⟩
            refine ⟨G', ps', e.trans e', S', ?_⟩
            rw [show os.take y2.length = os from List.take_of_length_le (by omega)] at hp'
            rw [take_snoc hlow, List.flatMap_append]
            have : List.flatMap (pairsAt os) [low] = (os.filter fun high => decide (low.1 < high.1)).map fun high => [low, high] := by
              rw [List.flatMap_cons]
              exact List.append_nil _
            rw [this]
            exact hp'
        · rintro H7 ⟨G, ps, e, S, hp⟩
          rw [List.take_of_length_le (by omega)] at hp
          have S8 := S.sink
          have e8 := e.trans S.exS
          have hp8 := hp.ex S.exS
          have hD3 : (upd G D3 (.lst ps)) D3 = some (.lst ps) := upd_same
          generalize upd G D3 (.lst ps) = G8 at S8 e8 hp8 hD3
          have lps : ps.length ≤ 100 * 100 := by
            rw [hp.1, List.length_map]
            have h1 := flat_len (f := pairsAt os) (k := 100) (l := os) fun s _ => Nat.le_trans (pairsAt_len os s) (by omega)
            have h4 := Nat.mul_le_mul_right 100 (show os.length ≤ 100 by omega)
            omega
          have bl2 : ∀ b ∈ os.flatMap (pairsAt os), b.length ≤ 100 := fun b hb => by
            obtain ⟨s, _, h2⟩ := List.mem_flatMap.mp hb
            obtain ⟨t, _, e⟩ := List.mem_map.mp h2
            rw [← e]
            show 2 ≤ 100
            decide
          generalize hF : os.flatMap (pairsAt os) = F at hp8 bl2
          have lF : F.length = ps.length := by rw [hp8.1, List.length_map]
          refine ⟨_, rfl, _, rfl, D3, rfl, ⟨_, Evl.sq_of (S8.ex _ _ hD3)⟩, fun D4 nD4 => ?_⟩
          refine lc_list (K := K) (a := D3) (xs := ps) (fun i H' => ∃ (qs : List V), Has G8 H' ((D4, .lst qs) :: l0) ∧ Ats G8 qs (((F.take i).filter (hasR (L.map (·.2)))).map dBar)) ⟨[], S8.new nD4, .nil⟩ (fun i H' _ p => by
            obtain ⟨qs, S, _⟩ := p
            exact Evl.sq_of (S.ex _ _ hD3)) ?_ ?_
          · rintro i x H9 hi ⟨qs, S, hy⟩
            obtain ⟨b, hb, hB⟩ := ats_get hp8 hi
            have lq : qs.length ≤ 100 * 100 := by
              rw [hy.1, List.length_map]
              have := filt_len (hasR (L.map (·.2))) F i
              omega
            refine ⟨rfl, _, rfl, _, rfl, a, n, L, x, b, rfl, tH ((((e1'.trans e6).trans e8)).trans S.ex), hB.ex S.ex, bl2 b (List.mem_of_getElem? hb), fun H10 e10 => ⟨_, rfl, ?_⟩⟩
            have S10 := S.go e10
            cases hq : hasR (L.map (·.2)) b with
            | true =>
              refine ⟨_, rfl, _, S10.get 0 rfl, szl (by omega), qs ++ [x], S10.set 0 rfl, ?_⟩
              rw [filt_yes (f := hasR (L.map (·.2))) hb hq, List.map_append]
              exact hy.snoc hB
            | false =>
              refine ⟨qs, S10, ?_⟩
              rw [filt_no (f := hasR (L.map (·.2))) hb hq]
              exact hy
          · rintro H9 ⟨qs, S, hy⟩
            rw [List.take_of_length_le (by omega)] at hy
            have lq : qs.length ≤ 100 * 100 := by
              rw [hy.1, List.length_map]
              have := List.length_filter_le (hasR (L.map (·.2))) F
              omega
            have hD1'' : H9 D1 = some (.lst y1) := S.ex _ _ (e8 _ _ hD1')
            refine ⟨D1, D4, y1, qs, rfl, rfl, hD1'', S.get 0 rfl, sz (by omega), fun p np => ?_⟩
            have S11 := S.new (o := .lst (y1 ++ qs)) np
            generalize upd H9 p (.lst (y1 ++ qs)) = H11 at S11
            have hall : Ats G8 (y1 ++ qs) ((rulesU (L.map (·.2)) n).map dBar) := by
              unfold rulesU
              rw [List.map_append, List.map_map, hos, hF]
              exact (y1''.ex e8).append hy
            obtain ⟨z1, z2, z3⟩ := ats_zip hall
            refine ⟨p, _, rfl, by rw [z1]; exact Evl.sq_of (S11.get 0 rfl), fun b hb => ((z3 b hb).ex S11.ex).dp, .inl (by rw [z2]; exact bars_sort rulesU_ne), fun b hb => ?_, fun t nt => ?_⟩
            · have : b.2 ∈ (rulesU (L.map (·.2)) n).map dBar := by
                rw [← z2]
                exact List.mem_map_of_mem hb
              obtain ⟨c, _, ec⟩ := List.mem_map.mp this
              rw [← ec]
              exact Nat.le_trans (dep_bar c) (by decide)
            · have S12 := S11.new (o := .lst (((y1 ++ qs).zip ((rulesU (L.map (·.2)) n).map dBar)).mergeSort (dataLe false (·.2)) |>.map (·.1))) nt
              have fin := ats_sort z3
              rw [z2] at fin
              exact q G8 t _ _ ((e1'.trans e6).trans e8) (S12.drop2.drop2) fin
end
end TW
set_option Elab.async false
set_option linter.all false
set_option maxRecDepth 100000
set_option maxHeartbeats 4000000
namespace TW
open PySem PySem.Spec PyProof.Rows L2
open PySem.W (AllAlike Sortable dataLt dataLe)
/-! what the law finds -/
def aM (ms : List Int) (s : Sgn) : Bool := ms.all fun m => met m s
def hasM (ms : List Int) (b : Bar) : Bool := ms.all fun m => b.any (met m)
def cnd (ms : List Int) (low high : Sgn) : Bool := !aM ms low && (!aM ms high && (!decide (low.1 = high.1) && hasM ms [low, high]))
def rowAt (ms : List Int) (S : List Sgn) (i : Nat) : List Bar := match S[i]? with
  | some low => ((S.drop (i + 1)).filter (cnd ms low)).map fun high => [low, high]
  | none => []
def sharpU (ms : List Int) (n : Nat) : List Bar := ((allS n).filter (aM ms)).map (fun s => [s]) ++ (List.range (2 * n)).flatMap (rowAt ms (allS n))
def sharpD (ms : List Int) (n : Nat) : List PyData := ((sharpU ms n).map dBar).mergeSort dLe
theorem rowAt_pair {ms : List Int} {S : List Sgn} {i : Nat} {b : Bar} (h : b ∈ rowAt ms S i) : ∃ s t, b = [s, t] := by
  unfold rowAt at h
  cases e : S[i]? with
  | none => rw [e] at h; exact absurd h List.not_mem_nil
  | some low =>
    rw [e] at h
    obtain ⟨t, _, rfl⟩ := List.mem_map.mp h
    exact ⟨_, _, rfl⟩
theorem sharpU_ne {ms : List Int} {n : Nat} : ∀ b ∈ sharpU ms n, b ≠ [] := fun b hb e => by
  subst e
  unfold sharpU at hb
  rcases List.mem_append.mp hb with h | h
  · obtain ⟨s, _, e⟩ := List.mem_map.mp h
    cases e
  · obtain ⟨s, _, h2⟩ := List.mem_flatMap.mp h
    obtain ⟨s, t, e⟩ := rowAt_pair h2
    cases e
theorem rowAt_len (ms : List Int) (S : List Sgn) (i : Nat) : (rowAt ms S i).length ≤ S.length := by
  unfold rowAt
  cases S[i]? with
  | none => exact Nat.zero_le _
  | some low =>
    rw [List.length_map]
    exact Nat.le_trans (List.length_filter_le _ _) (by rw [List.length_drop]; omega)
theorem kept_one (m : Int) (b : Bar) : keptB m [b] = b.any (met m) := by
  show (b.any (met m) && true) = _
  rw [Bool.and_true]
theorem range_flat {α : Type} (f : Nat → List α) (i : Nat) : (List.range (i + 1)).flatMap f = (List.range i).flatMap f ++ f i := by
  rw [List.range_succ, List.flatMap_append, List.flatMap_cons]
  simp
theorem drop_get {α : Type} {l : List α} {i j : Nat} : (l.drop i)[j]? = l[i + j]? := by rw [List.getElem?_drop]
section
variable {P : Program} {w : World} {K : PySem.W.Frag} {mg : Str → Option Value} {base : Heap} {C : Addr}
abbrev NS : List Str := ["masks", "wide", "signs", "alone", "row", "one", "two", "bar", "sign", "mask", "k"]
def scSign : Scope := { kind := .function, names := [(".0", .local), ("sign", .cell), ("all", .globalImplicit), ("masks", .cell)], isGenerator := false, isCoroutine := false }
def spSharp : Sp := fun vs H Q _ => ∃ (G : Hp) (l : List (Addr × HO)) (a : Addr) (n : Nat) (ms : List Int), vs = [.ref a, .int n] ∧ Has G H l ∧ G a = some (.lst (ms.map V.int)) ∧ n ≤ 50 ∧ ms.length ≤ 1000 ∧
  ∀ (G' : Hp) (t : Addr) (xs : List V) (H' : Hp), Ex G G' → Has G' H' ((t, .lst xs) :: l) → Ats G' xs (sharpD ms n) → Q (.ref t) H'
end
end TW
set_option Elab.async false
set_option linter.all false
set_option maxRecDepth 100000
set_option maxHeartbeats 4000000
namespace TW
open PySem PySem.Spec PyProof.Rows L2
open PySem.W (AllAlike Sortable dataLt dataLe)
/-! one list, told twice -/
theorem strict_ext {α : Type} {r : α → α → Prop} (as : ∀ x y, r x y → r y x → False) : ∀ {xs ys : List α}, xs.Pairwise r → ys.Pairwise r → (∀ z, z ∈ xs ↔ z ∈ ys) → xs = ys
  | [], [], _, _, _ => rfl
  | [], y :: t, _, _, h => absurd ((h y).mpr List.mem_cons_self) List.not_mem_nil
  | x :: t, [], _, _, h => absurd ((h x).mp List.mem_cons_self) List.not_mem_nil
  | x :: xs, y :: ys, hx, hy, h => by
    have cx := List.pairwise_cons.mp hx
    have cy := List.pairwise_cons.mp hy
    have e : x = y := by
      rcases List.mem_cons.mp ((h x).mp List.mem_cons_self) with q | q
      · exact q
      rcases List.mem_cons.mp ((h y).mpr List.mem_cons_self) with p | p
      · exact p.symm
      · exact (as _ _ (cx.1 y p) (cy.1 x q)).elim
    subst e
    have ir : ∀ z, r x z → z ≠ x := fun z q e => by
      subst e
      exact as _ _ q q
    rw [strict_ext as cx.2 cy.2 fun z => ⟨fun hz => ?_, fun hz => ?_⟩]
    · rcases List.mem_cons.mp ((h z).mp (List.mem_cons_of_mem _ hz)) with q | q
      · exact absurd q (ir z (cx.1 z hz))
      · exact q
    · rcases List.mem_cons.mp ((h z).mpr (List.mem_cons_of_mem _ hz)) with q | q
      · exact absurd q (ir z (cy.1 z hz))
      · exact q
def tl {α β : Type} (f : α → List α → List β) : List α → List β
  | [] => []
  | x :: r => f x r ++ tl f r
theorem tl_range {α β : Type} (f : α → List α → List β) : ∀ l : List α, (List.range l.length).flatMap (fun i => match l[i]? with | some x => f x (l.drop (i + 1)) | none => []) = tl f l
  | [] => rfl
  | x :: r => by
    rw [List.length_cons, List.range_succ_eq_map, List.flatMap_cons, List.flatMap_map]
    have ih := tl_range f r
    show f x r ++ (List.range r.length).flatMap (fun i => match r[i]? with | some x => f x (r.drop (i + 1)) | none => []) = f x r ++ tl f r
    rw [ih]
/-! the two lists of rules -/
theorem allS_lt {n : Nat} {s : Sgn} (h : s ∈ allS n) : s.1 < n := by
  unfold allS at h
  obtain ⟨k, hk, h2⟩ := List.mem_flatMap.mp h
  have := List.mem_range.mp hk
  simp only [List.mem_cons, List.not_mem_nil, or_false] at h2
  rcases h2 with rfl | rfl <;> exact this
theorem allS_le (n : Nat) : (allS n).Pairwise fun s t => s.1 ≤ t.1 := by
  induction n with
  | zero => exact List.Pairwise.nil
  | succ n ih =>
    rw [allS_up, List.pairwise_append]
    refine ⟨ih, ?_, fun s hs t ht => ?_⟩
    · refine List.pairwise_cons.mpr ⟨fun t ht => ?_, List.pairwise_singleton _ _⟩
      rw [List.mem_singleton.mp ht]
      exact Nat.le_refl _
    · have h1 := allS_lt hs
      simp only [List.mem_cons, List.not_mem_nil, or_false] at ht
      rcases ht with rfl | rfl <;> exact Nat.le_of_lt h1
def LotsAre (n : Nat) (ms : List Int) (lots : List (List Int)) : Prop := (∀ x ∈ lots, ∃ m ∈ ms, x = lotOf m n) ∧ ∀ m ∈ ms, lotOf m n ∈ lots
theorem any_mt {m : Int} {n : Nat} {b : Bar} (h : ∀ s ∈ b, s.1 < n) : b.any (mt (lotOf m n)) = b.any (met m) := by
  induction b with
  | nil => rfl
  | cons s b ih =>
    rw [List.any_cons, List.any_cons, mt_lot (h s List.mem_cons_self), ih fun t ht => h t (List.mem_cons_of_mem _ ht)]
theorem hasR_eq {n : Nat} {ms : List Int} {lots : List (List Int)} (h : LotsAre n ms lots) {b : Bar} (hb : ∀ s ∈ b, s.1 < n) : hasR lots b = hasM ms b := by
  unfold hasR hasM
  rw [Bool.eq_iff_iff, List.all_eq_true, List.all_eq_true]
  constructor
  · intro q m hm
    rw [← any_mt hb]
    exact q _ (h.2 m hm)
  · intro q x hx
    obtain ⟨m, hm, rfl⟩ := h.1 x hx
    rw [any_mt hb]
    exact q m hm
theorem hasM_one (ms : List Int) (s : Sgn) : hasM ms [s] = aM ms s := by
  unfold hasM aM
  congr 1
  funext m
  show (met m s || false) = _
  rw [Bool.or_false]
theorem filt_congr {α : Type} {f g : α → Bool} {l : List α} (h : ∀ x ∈ l, f x = g x) : l.filter f = l.filter g := by
  induction l with
  | nil => rfl
  | cons x l ih => rw [List.filter_cons, List.filter_cons, h x List.mem_cons_self, ih fun y hy => h y (List.mem_cons_of_mem _ hy)]
theorem flat_congr {α β : Type} {f g : α → List β} {l : List α} (h : ∀ x ∈ l, f x = g x) : l.flatMap f = l.flatMap g := by
  induction l with
  | nil => rfl
  | cons x l ih => rw [List.flatMap_cons, List.flatMap_cons, h x List.mem_cons_self, ih fun y hy => h y (List.mem_cons_of_mem _ hy)]
theorem filter_none {α : Type} {f : α → Bool} {l : List α} (h : ∀ x ∈ l, f x = false) : l.filter f = [] := List.filter_eq_nil_iff.mpr fun x hx => by rw [h x hx]; decide
theorem pairs_tl {ms : List Int} : ∀ (suf pre S : List Sgn), S = pre ++ suf → S.Pairwise (fun s t => s.1 ≤ t.1) →
    (suf.filter fun s => !aM ms s).flatMap (fun low => (pairsAt (S.filter fun s => !aM ms s) low).filter (hasM ms)) = tl (fun low r => (r.filter (cnd ms low)).map fun high => [low, high]) suf
  | [], _, _, _, _ => rfl
  | x :: r, pre, S, e, hS => by
    have ih := pairs_tl (ms := ms) r (pre ++ [x]) S (by rw [e, List.append_assoc]; rfl) hS
    have hS' := hS
    rw [e, List.pairwise_append, List.pairwise_cons] at hS'
    obtain ⟨hp, ⟨hx, hr⟩, hc⟩ := hS'
    cases ho : aM ms x with
    | true =>
      rw [List.filter_cons, if_neg (by rw [ho]; decide), ih]
      show _ = (r.filter (cnd ms x)).map (fun high => [x, high]) ++ _
      rw [filter_none fun y _ => by unfold cnd; rw [ho]; rfl]
      rfl
    | false =>
      rw [List.filter_cons, if_pos (by rw [ho]; rfl), List.flatMap_cons, ih]
      show _ = (r.filter (cnd ms x)).map (fun high => [x, high]) ++ _
      congr 1
      unfold pairsAt
      rw [List.filter_map, List.filter_filter, List.filter_filter]
      congr 1
      rw [e, List.filter_append, List.filter_cons]
      have h1 : pre.filter (fun a => ((hasM ms ∘ fun high => [x, high]) a && decide (x.1 < a.1)) && !aM ms a) = [] := filter_none fun y hy => by
        have := hc y hy x List.mem_cons_self
        rw [decide_eq_false (by omega), Bool.and_false, Bool.false_and]
      rw [h1, if_neg (by rw [decide_eq_false (by omega), Bool.and_false, Bool.false_and]; decide), List.nil_append]
      refine filt_congr fun y hy => ?_
      have hxy := hx y hy
      unfold cnd
      rw [ho]
      have : decide (x.1 < y.1) = !decide (x.1 = y.1) := by
        rw [Bool.eq_iff_iff, decide_eq_true_eq, Bool.not_eq_true', decide_eq_false_iff_not]
        omega
      rw [this]
      show ((hasM ms [x, y] && !decide (x.1 = y.1)) && !aM ms y) = (!false && (!aM ms y && (!decide (x.1 = y.1) && hasM ms [x, y])))
      cases hasM ms [x, y] <;> cases aM ms y <;> cases decide (x.1 = y.1) <;> rfl
theorem rules_eq {n : Nat} {ms : List Int} {lots : List (List Int)} (h : LotsAre n ms lots) : rulesU lots n = sharpU ms n := by
  have e1 : ∀ s ∈ allS n, hasR lots [s] = aM ms s := fun s hs => by
    rw [hasR_eq h fun t ht => by rw [List.mem_singleton.mp ht]; exact allS_lt hs, hasM_one]
  have eS : singleS lots n = (allS n).filter (aM ms) := filt_congr e1
  have eO : opensS lots n = (allS n).filter fun s => !aM ms s := filt_congr fun s hs => by rw [e1 s hs]
  unfold rulesU sharpU
  rw [eS, eO, List.filter_flatMap]
  congr 1
  rw [← allS_len n]
  have e2 := tl_range (fun low r => (r.filter (cnd ms low)).map fun high => [low, high]) (allS n)
  have e3 : (List.range (allS n).length).flatMap (rowAt ms (allS n)) = tl (fun low r => (r.filter (cnd ms low)).map fun high => [low, high]) (allS n) := by
    rw [← e2]
    refine flat_congr fun i _ => ?_
    unfold rowAt
    cases (allS n)[i]? <;> rfl
  rw [e3, ← pairs_tl (allS n) [] (allS n) rfl (allS_le n)]
  refine flat_congr fun low hlow => filt_congr fun b hb => hasR_eq h fun s hs => ?_
  unfold pairsAt at hb
  obtain ⟨t, ht, rfl⟩ := List.mem_map.mp hb
  simp only [List.mem_cons, List.not_mem_nil, or_false] at hs
  rcases hs with rfl | rfl
  · exact allS_lt (List.mem_filter.mp hlow).1
  · exact allS_lt (List.mem_filter.mp (List.mem_filter.mp ht).1).1
theorem rulesD_eq {n : Nat} {ms : List Int} {lots : List (List Int)} (h : LotsAre n ms lots) : rulesD lots n = sharpD ms n := by
  unfold rulesD sharpD
  rw [rules_eq h]
theorem tabOf_are {n : Nat} {ms : List Int} {L : Lots} (h : TabOf n ms L) : LotsAre n ms (L.map (·.2)) := ⟨fun x hx => by
  obtain ⟨p, hp, rfl⟩ := List.mem_map.mp hx
  exact h.1 p hp, h.2.1⟩
theorem are_perm {n : Nat} {ms ms' : List Int} {lots : List (List Int)} (p : ms'.Perm ms) (h : LotsAre n ms' lots) : LotsAre n ms lots := ⟨fun x hx => by
  obtain ⟨m, hm, e⟩ := h.1 x hx
  exact ⟨m, p.mem_iff.mp hm, e⟩, fun m hm => h.2 m (p.mem_iff.mpr hm)⟩
/-! the lots, told twice -/
theorem bits_inj : ∀ (n : Nat) (m m' : Int), 0 ≤ m → m < 2 ^ n → 0 ≤ m' → m' < 2 ^ n → (∀ k < n, m / 2 ^ k % 2 = m' / 2 ^ k % 2) → m = m'
  | 0, m, m', h1, h2, h3, h4, _ => by
    simp at h2 h4
    omega
  | n + 1, m, m', h1, h2, h3, h4, h => by
    have e : (2 : Int) ^ (n + 1) = 2 ^ n * 2 := Int.pow_succ _ _
    have h0 := h 0 (by omega)
    simp only [Int.pow_zero, Int.ediv_one] at h0
    have ih := bits_inj n (m / 2) (m' / 2) (by omega) (by omega) (by omega) (by omega) fun k hk => by
      have := h (k + 1) (by omega)
      rw [show (2 : Int) ^ (k + 1) = 2 * 2 ^ k by rw [Int.pow_succ, Int.mul_comm]] at this
      rw [Int.ediv_ediv_of_nonneg (by decide), Int.ediv_ediv_of_nonneg (by decide)]
      exact this
    omega
theorem lot_inj {n : Nat} {m m' : Int} (h1 : 0 ≤ m) (h2 : m < 2 ^ n) (h3 : 0 ≤ m') (h4 : m' < 2 ^ n) (e : lotOf m n = lotOf m' n) : m = m' := by
  refine bits_inj n m m' h1 h2 h3 h4 fun k hk => ?_
  have hb : ∀ {a : Int}, bitB a k = true ↔ (k : Int) ∈ lotOf a n := fun {a} => by
    rw [lot_mem]
    constructor
    · intro h
      exact ⟨k, hk, h, rfl⟩
    · rintro ⟨j, _, h, e⟩
      rw [show k = j by omega]
      exact h
  have h : bitB m k = true ↔ bitB m' k = true := by rw [hb, hb, e]
  unfold bitB at h
  rw [decide_eq_true_eq, decide_eq_true_eq] at h
  have c1 := Int.emod_two_eq (m / 2 ^ k)
  have c2 := Int.emod_two_eq (m' / 2 ^ k)
  omega
theorem lex_strict {xs ys : List Int} (h : HT.lexLt ys xs = false) (n : xs ≠ ys) : HT.lexLt xs ys = true := by
  rw [lex_list] at h ⊢
  rw [decide_eq_false_iff_not] at h
  rw [decide_eq_true_eq]
  exact Decidable.byContradiction fun c => n (List.le_antisymm (List.not_lt.mp h) (List.not_lt.mp c))
theorem lex_asymm (xs ys : List Int) (h : HT.lexLt xs ys = true) (h' : HT.lexLt ys xs = true) : False := by
  rw [lex_list, decide_eq_true_eq] at h h'
  exact List.lt_asymm h h'
theorem lots_strict {l : List (List Int)} (h : l.Pairwise fun x y => HT.lexLt y x = false) (n : l.Nodup) : l.Pairwise fun x y => HT.lexLt x y = true := List.Pairwise.imp₂ (fun a b p q => lex_strict p q) h n
theorem dLe_lots (xs ys : List Int) : dLe (tupD xs) (tupD ys) = !HT.lexLt ys xs := by
  rw [← lt_tupD]
  rfl
theorem dLe_pw (ds : List PyData) : (ds.mergeSort dLe).Pairwise fun x y => dLe x y = true := by
  have T := PySem.W.sortLe_total (PyProof.Rows.listOrd PyProof.Rows.itemOrd) false (fun b : PyData => PySem.W.keyToks b)
  have e : dLe = PySem.W.sortLe (PyProof.Rows.listOrd PyProof.Rows.itemOrd) false (fun b : PyData => PySem.W.keyToks b) := rfl
  rw [e]
  exact List.pairwise_mergeSort (fun a b c h1 h2 => T.trans a b c h1 h2) (fun a b => by rcases T.total a b with h | h <;> simp [h]) ds
theorem lots_told {n : Nat} {ms : List Int} {L : Lots} (h : TabOf n ms L) (hm : masksOk n ms) : (ms.map fun m => tupD (lotOf m n)).mergeSort dLe = (L.map (·.2)).map tupD := by
  have pm := List.mergeSort_perm (ms.map fun m => tupD (lotOf m n)) dLe
  have pw := dLe_pw (ms.map fun m => tupD (lotOf m n))
  have em : (ms.map fun m => tupD (lotOf m n)) = (ms.map fun m => lotOf m n).map tupD := by rw [List.map_map]; rfl
  generalize (ms.map fun m => tupD (lotOf m n)).mergeSort dLe = Z at pm pw
  rw [em] at pm
  obtain ⟨W, pW, rfl⟩ := perm_back pm
  congr 1
  have nd : (ms.map fun m => lotOf m n).Nodup := by
    unfold List.Nodup
    rw [List.pairwise_map]
    refine List.Pairwise.imp_of_mem (fun {a b} ha hb (hn : a ≠ b) e => hn ?_) (up_nodup hm.1)
    obtain ⟨a1, a2⟩ := hm.2.2 a ha
    obtain ⟨b1, b2⟩ := hm.2.2 b hb
    exact lot_inj a1 a2 b1 b2 e
  rw [List.pairwise_map] at pw
  refine strict_ext lex_asymm (lots_strict (pw.imp fun {x y} q => ?_) (pW.nodup_iff.mpr nd)) (lots_strict (by rw [List.pairwise_map]; exact h.2.2.2) h.2.2.1) fun z => ?_
  · rw [dLe_lots] at q
    rw [Bool.not_eq_true'] at q
    exact q
  · rw [pW.mem_iff, List.mem_map]
    constructor
    · rintro ⟨m, hm', rfl⟩
      exact h.2.1 m hm'
    · intro hz
      obtain ⟨p, hp, rfl⟩ := List.mem_map.mp hz
      obtain ⟨m, hm', e⟩ := h.1 p hp
      exact ⟨m, hm', e.symm⟩
end TW
set_option Elab.async false
set_option linter.all false
set_option maxRecDepth 100000
set_option maxHeartbeats 4000000
namespace TW
open PySem PySem.Spec PyProof.Rows L2
/-! alike by parts -/
theorem rep_list {k : Nat} {H : Hp} {x y : V} {ds : List PyData} (hx : At H x (.list ds)) (hy : At H y (.list ds)) (hl : ds.length ≤ 10000) (h : ∀ d ∈ ds, ∀ x y, At H x d → At H y d → Rep k H x y) : Rep (k + 1) H x y := by
  obtain ⟨a, xs, rfl, ha, hxs⟩ := hx.isL
  obtain ⟨b, ys, rfl, hb, hys⟩ := hy.isL
  refine .inr ⟨a, b, xs, ys, rfl, rfl, .inl ⟨ha, hb⟩, hxs.1.trans hys.1.symm, by rw [hys.1]; exact hl, fun i u v hu hv => ?_⟩
  obtain ⟨d, hd, hA⟩ := hxs.at' hu
  exact h d (List.mem_of_getElem? hd) u v hA (hys.2 i v d hv hd)
theorem rep_tuple {k : Nat} {H : Hp} {x y : V} {ds : List PyData} (hx : At H x (.tuple ds)) (hy : At H y (.tuple ds)) (hl : ds.length ≤ 10000) (h : ∀ d ∈ ds, ∀ x y, At H x d → At H y d → Rep k H x y) : Rep (k + 1) H x y := by
  obtain ⟨a, xs, rfl, ha, hxs⟩ := hx.isT
  obtain ⟨b, ys, rfl, hb, hys⟩ := hy.isT
  refine .inr ⟨a, b, xs, ys, rfl, rfl, .inr ⟨ha, hb⟩, hxs.1.trans hys.1.symm, by rw [hys.1]; exact hl, fun i u v hu hv => ?_⟩
  obtain ⟨d, hd, hA⟩ := hxs.at' hu
  exact h d (List.mem_of_getElem? hd) u v hA (hys.2 i v d hv hd)
theorem rep_sgn {H : Hp} {x y : V} {s : Sgn} (hx : At H x (dSgn s)) (hy : At H y (dSgn s)) : Rep 1 H x y := by
  refine rep_tuple hx hy (by show 2 ≤ 10000; decide) fun d hd u v hu hv => ?_
  simp only [List.mem_cons, List.not_mem_nil, or_false] at hd
  rcases hd with rfl | rfl
  · rw [hu.isI, hv.isI]
    exact Rep.flat rfl
  · rw [hu.isS, hv.isS]
    exact Rep.flat rfl
theorem rep_bar {H : Hp} {x y : V} {b : Bar} (hl : b.length ≤ 100) (hx : At H x (dBar b)) (hy : At H y (dBar b)) : Rep 2 H x y := by
  refine rep_tuple hx hy (by rw [List.length_map]; omega) fun d hd u v hu hv => ?_
  obtain ⟨s, _, rfl⟩ := List.mem_map.mp hd
  exact rep_sgn hu hv
theorem rep_sharp {H : Hp} {x y : V} {ms : List Int} {n : Nat} (hn : n ≤ 6) (hx : At H x (.list (sharpD ms n))) (hy : At H y (.list (sharpD ms n))) : Rep 3 H x y := by
  have pm : (sharpD ms n).Perm ((sharpU ms n).map dBar) := List.mergeSort_perm _ _
  have hl : (sharpU ms n).length ≤ 12 + 12 * 12 := by
    unfold sharpU
    rw [List.length_append, List.length_map]
    have h1 := List.length_filter_le (aM ms) (allS n)
    have al := allS_len n
    have h2 := flat_len (f := rowAt ms (allS n)) (k := 12) (l := List.range (2 * n)) fun s _ => Nat.le_trans (rowAt_len ms _ s) (by omega)
    rw [List.length_range] at h2
    omega
  refine rep_list hx hy (by rw [pm.length_eq, List.length_map]; omega) fun d hd u v hu hv => ?_
  obtain ⟨b, hb, rfl⟩ := List.mem_map.mp (pm.mem_iff.mp hd)
  refine rep_bar ?_ hu hv
  unfold sharpU at hb
  rcases List.mem_append.mp hb with h | h
  · obtain ⟨s, _, rfl⟩ := List.mem_map.mp h
    show 1 ≤ 100
    decide
  · obtain ⟨i, _, h2⟩ := List.mem_flatMap.mp h
    obtain ⟨s, t, rfl⟩ := rowAt_pair h2
    show 2 ≤ 100
    decide
theorem rep_lots {H : Hp} {x y : V} {ls : List (List Int)} (hl : ls.length ≤ 1000) (hb : ∀ l ∈ ls, l.length ≤ 1000) (hx : At H x (.list (ls.map tupD))) (hy : At H y (.list (ls.map tupD))) : Rep 2 H x y := by
  refine rep_list hx hy (by rw [List.length_map]; omega) fun d hd u v hu hv => ?_
  obtain ⟨l, h, rfl⟩ := List.mem_map.mp hd
  refine rep_tuple hu hv (by rw [List.length_map]; have := hb l h; omega) fun d hd u v hu hv => ?_
  obtain ⟨i, _, rfl⟩ := List.mem_map.mp hd
  rw [hu.isI, hv.isI]
  exact Rep.flat rfl
theorem at_lot {H : Hp} {a : Addr} {ns : List Int} (h : H a = some (.tup (ns.map V.int))) : At H (.ref a) (tupD ns) := At.mkT h (Ats.map_ fun i _ => .int i)
/-! masks -/
theorem up_len : ∀ {ns : List Int} {lo : Int} {k : Nat}, Up ns → (∀ z ∈ ns, lo ≤ z ∧ z < lo + k) → ns.length ≤ k
  | [], _, _, _, _ => Nat.zero_le _
  | x :: r, lo, k, u, h => by
    have c := List.pairwise_cons.mp u
    have hx := h x List.mem_cons_self
    cases k with
    | zero => omega
    | succ k =>
      have := up_len (ns := r) (lo := lo + 1) (k := k) c.2 fun z hz => by
        have h1 := c.1 z hz
        have h2 := h z (List.mem_cons_of_mem _ hz)
        omega
      rw [List.length_cons]
      omega
theorem masks_len {n : Nat} {ms : List Int} (hn : 0 < n) (hn' : n ≤ 6) (h : masksOk n ms) : ms.length ≤ 64 := by
  obtain ⟨b, hb1, hb2, hb0, hb64⟩ := pow_small hn hn'
  refine Nat.le_trans (up_len (lo := 0) (k := b) h.1 fun z hz => ?_) hb64
  have := h.2.2 z hz
  rw [← hb1, Int.one_mul]
  omega
theorem masks_sub {n : Nat} {ms ms' : List Int} (h : masksOk n ms) (s : ms'.Sublist ms) (ne : ms' ≠ []) : masksOk n ms' := ⟨List.Pairwise.sublist s h.1, ne, fun m hm => h.2.2 m (s.subset hm)⟩
theorem cut_to {xs : List V} {r : Nat} (h : r ≤ xs.length) : cutV xs none (some (r : Int)) = xs.take r := by
  unfold cutV
  rw [HT.sIx_nat, HT.sIx_none]
  simp [Nat.min_eq_left h]
theorem cut_last {xs : List V} (h : 0 < xs.length) : cutV xs (some (-1)) none = xs.drop (xs.length - 1) := by
  unfold cutV
  rw [HT.sIx_none]
  have e : HT.sIx xs.length 0 (some (-1)) = xs.length - 1 := by
    unfold HT.sIx
    simp
    omega
  rw [e]
  exact List.take_of_length_le (by rw [List.length_drop]; omega)
end TW
set_option Elab.async false
set_option linter.all false
set_option maxRecDepth 100000
set_option maxHeartbeats 4000000
namespace TW
open PySem PySem.Spec PyProof.Rows L2
def lotP (ns : List Int) : Prop := lotOk ns
/-- the things of a part ascend -/
def ascB (b : Bar) : Bool := asc (b.map fun s : Sgn => (s.1 : Int))
def insB (b : Bar) (t : Option Int) : Bool := b.all fun s => inThings (s.1 : Int) t
section
variable {P : Program} {w : World} {K : PySem.W.Frag} {mg : Str → Option Value} {base : Heap} {C : Addr}
/-! is_ascending, of a list of ints -/
def spIsAscL (K : PySem.W.Frag) : Sp := fun vs H Q _ => ∃ (t : Addr) (ns : List Int), vs = [.ref t] ∧ SqL K H t (ns.map V.int) ∧ ns.length ≤ 1000 ∧ ∀ H', Ex H H' → Q (.bl (asc ns)) H'
theorem ok_is_ascendingL (D : Dfn K mg "is_ascending" s_is_ascending ["values"]) (z : Z mg) : Ok P w K mg base 1 "is_ascending" ["values"] (spIsAscL K) := D.ok fun f fd F => by
  refine F.ok sc_is_ascending (fun vs H Q E h => ?_) (fun cdv A outer s H vs Q E hr h => ?_)
  · obtain ⟨i, t, rfl, _⟩ := h
    rfl
  · obtain ⟨t, ns, rfl, hT, hl, q⟩ := h
    refine ⟨_, (pss_one (ps_ret (pe_callB (cr_all rfl) (by rfl) z.all (by decide +kernel) (pa_cons (pe_lc (own := [("low", 1), ("high", 2)]) (g := gTup K 2 (gCons (gName 1) (gCons (gName 2) gNil))) rfl sc_is_ascending.nd (RZ.pi_zipA (by rfl) z.zip (pa_cons (pv 0) (pa_cons (pe_slice sl_list (pv 0) (po_some pe_int) po_none) pa_nil))) (blkOk_by (N := ["values", "low", "high"]) (own := [("low", 1), ("high", 2)]) (sc := defScope s_is_ascending) (by decide +kernel)) (fun _ _ _ _ _ => pg_tup rfl (pgs_cons (pg_name (i := 1) sc_is_ascending.nd rfl (Or.inl rfl)) (pgs_cons (pg_name (i := 2) sc_is_ascending.nd rfl (Or.inl rfl)) (pgs_nil)))) (fun _ _ _ _ _ => pts_nil) (fun _ _ _ _ _ => (pe_cmpR op_lt (pv 1) (pv 2) (nomark _)))) pa_nil)))), ?_⟩
    have i0 : HT.sIx (ns.map V.int).length 0 (some 1) = min 1 (ns.map V.int).length := HT.sIx_nat _ 0 1
    have e1 : cutV (ns.map V.int) (some 1) none = (ns.drop 1).map V.int := by
      unfold cutV
      rw [i0, HT.sIx_none, List.map_drop]
      cases ns with
      | nil => rfl
      | cons x r =>
        rw [show min 1 (List.map V.int (x :: r)).length = 1 by rw [List.map_cons, List.length_cons]; omega]
        rw [← List.length_drop, List.take_length]
    refine ⟨_, rfl, _, rfl, _, rfl, t, ns.map V.int, rfl, hT, fun p hp => ?_⟩
    rw [e1]
    have x1 : Ex H (upd H p (.lst ((ns.drop 1).map V.int))) := Evl.Ex.new hp
    have hp2 : (upd H p (.lst ((ns.drop 1).map V.int))) p = some (.lst ((ns.drop 1).map V.int)) := upd_same
    generalize upd H p (.lst ((ns.drop 1).map V.int)) = H1 at x1 hp2
    refine ⟨t, p, ns.map V.int, (ns.drop 1).map V.int, rfl, .inl ⟨Evl.ex_l x1 hT, Evl.sq_of hp2, fun Dl hD => ?_⟩⟩
    refine lc_it (walk_zip (adj_len ns)) (fun i H' => Ex H1 H' ∧ H' Dl = some (.lst (((adj ns).take i).map V.bl))) ⟨Evl.Ex.new hD, by rw [upd_same]; rfl⟩ (fun i H' _ p => ⟨Evl.ex_l (x1.trans p.1) hT, Evl.sq_of (p.1 _ _ hp2)⟩) ?_ (fun H' p => ?_)
    · rintro i x H2 H3 hi ⟨x2, hL⟩ ⟨T, u, v, rfl, nT, rfl, hu, hv⟩
      obtain ⟨p, q2, rfl, rfl, ha⟩ := adj_get hu hv
      refine ⟨T, _, rfl, Evl.st_of upd_same, rfl, _, _, rfl, _, _, rfl, rfl, rfl, ?_⟩
      refine ⟨_, rfl, _, rfl, _, _, rfl, rfl, _, Eq.trans (upd_ne (ne_of_none hL nT)) hL, szl ?_, ?_, ?_⟩
      · rw [List.length_map, List.length_take]
        have := adj_len ns
        rw [List.length_map] at this
        omega
      · exact Evl.Ex.mut (x2.trans (Evl.Ex.new nT)) hD
      · rw [upd_same, take_snoc ha, List.map_append]
        rfl
    · obtain ⟨x2, h2⟩ := p
      rw [List.take_length] at h2
      refine ⟨Dl, adj ns, rfl, Evl.sq_of h2, ?_⟩
      rw [adj_asc]
      exact q H' (x1.trans x2)
/-! is_literal, check_literal -/
theorem sc_is_literal : FnScope ["value", "things", "thing", "word"] ["value", "things"] (defScope s_is_literal) := ⟨rfl, rfl, rfl, by decide +kernel, rfl, by decide +kernel, by decide +kernel⟩
def spIsLiteral : Sp := fun vs H Q _ => ∃ (v : V) (s : Sgn) (t : Option Int), vs = [v, thV t] ∧ At H v (dSgn s) ∧ ∀ H', Ex H H' → Q (.bl (inThings (s.1 : Int) t)) H'
theorem ok_is_literal (D : Dfn K mg "is_literal" s_is_literal ["value", "things"]) (z : Z mg) (zs : mg "str" = none) (O_is_thing : Ok P w K mg base 2 "is_thing" ["value", "things"] spIsThing) : Ok P w K mg base 3 "is_literal" ["value", "things"] spIsLiteral := D.ok fun f fd F => by
  refine F.ok sc_is_literal (fun vs H Q E h => ?_) (fun cdv A outer s H vs Q E hr h => ?_)
  · obtain ⟨v, s, t, rfl, _⟩ := h
    rfl
  · obtain ⟨v, s, t, rfl, hv, q⟩ := h
    obtain ⟨a, rfl, ha⟩ := hv.sgn
    refine ⟨_, (pss_cons (ps_if (PW.pt (pw_or (pt_cmpR op_isNotTy (pe_callTy call_type1 (by rfl) z.type (by decide +kernel) (pa_cons (pv 0) pa_nil)) (pe_tyn (n := "tuple") (by rfl) z.tuple (by decide +kernel)) (nomark _)) (pw_or1 (pt_cmpR op_ne (pe_callB call_len_seq (by rfl) z.len PySem.boot_len (pa_cons (pv 0) pa_nil)) pe_int (nomark _))))) (pss_one (ps_ret pe_bl)) pss_nil)
      (pss_cons (ps_asg (pv 0) (pg_tup rfl (pgs_cons (pg_name (i := 2) sc_is_literal.nd rfl (Or.inl rfl)) (pgs_cons (pg_name (i := 3) sc_is_literal.nd rfl (Or.inl rfl)) pgs_nil))))
      (pss_one (ps_ret (pe_and (pe_o O_is_thing hr (pa_cons (pv 2) (pa_cons (pv 1) pa_nil))) (pe_and (pe_cmpR op_isTy (pe_callTy call_type1 (by rfl) z.type (by decide +kernel) (pa_cons (pv 3) pa_nil)) (pe_tyn (n := "str") (by rfl) zs (by decide +kernel)) (nomark _)) (pe_one (pe_cmpR op_in_seq (pv 3) (pe_tup (pa_cons pe_str (pa_cons pe_str pa_nil))) (by rfl))))))))), ?_⟩
    refine ⟨_, rfl, _, _, rfl, .tup (Evl.st_of ha), _, _, rfl, rfl, _, rfl, ?_⟩
    refine ⟨_, rfl, a, _, rfl, .inr (Evl.st_of ha), rfl, _, rfl, ?_⟩
    refine ⟨_, rfl, a, _, rfl, Evl.st_of ha, rfl, _, _, rfl, _, _, rfl, rfl, ?_⟩
    refine ⟨_, rfl, _, rfl, (s.1 : Int), t, rfl, ?_⟩
    rw [decide_eq_true (show (0 : Int) ≤ (s.1 : Int) by omega), Bool.true_and]
    cases ht : inThings (s.1 : Int) t with
    | false =>
      rw [ht] at q
      exact ⟨_, rfl, q H (Evl.Ex.refl H)⟩
    | true =>
      rw [ht] at q
      refine ⟨_, rfl, ?_⟩
      refine ⟨_, rfl, _, _, rfl, .str _, _, _, rfl, rfl, _, rfl, ?_⟩
      refine ⟨_, rfl, sz (by show 2 ≤ 100000; decide), fun p np => ?_⟩
      refine ⟨p, [.str "in", .str "out"], rfl, .inr (Evl.st_of upd_same), ?_, ?_, ?_⟩
      · cases s.2 <;> rfl
      · rfl
      · have : inV (.str (sw s.2)) [.str "in", .str "out"] = true := by cases s.2 <;> decide +kernel
        rw [this]
        exact q _ (Evl.Ex.new np)
theorem sc_check_literal : FnScope ["literal", "things"] ["literal", "things"] (defScope s_check_literal) := ⟨rfl, rfl, rfl, by decide +kernel, rfl, by decide +kernel, by decide +kernel⟩
def spCheckLiteral : Sp := fun vs H Q _ => ∃ (v : V) (s : Sgn) (t : Option Int), vs = [v, thV t] ∧ At H v (dSgn s) ∧ inThings (s.1 : Int) t = true ∧ ∀ H', Ex H H' → Q .non H'
theorem ok_check_literal (D : Dfn K mg "check_literal" s_check_literal ["literal", "things"]) (O_is_literal : Ok P w K mg base 3 "is_literal" ["value", "things"] spIsLiteral) : Ok P w K mg base 4 "check_literal" ["literal", "things"] spCheckLiteral := D.ok fun f fd F => by
  refine F.ok sc_check_literal (fun vs H Q E h => ?_) (fun cdv A outer s H vs Q E hr h => ?_)
  · obtain ⟨v, s, t, rfl, _⟩ := h
    rfl
  · obtain ⟨v, s, t, rfl, hv, hb, q⟩ := h
    refine ⟨_, (pss_one (ps_if (pt_not (pt_val (pe_o O_is_literal hr (pa_cons (pv 0) (pa_cons (pv 1) pa_nil))))) (pss_one ps_never) pss_nil)), ?_⟩
    refine ⟨_, rfl, _, rfl, v, s, t, rfl, hv, fun H1 e1 => ?_⟩
    rw [hb]
    exact ⟨_, rfl, q H1 e1⟩
/-! is_part, check_part -/
theorem sc_is_part : FnScope ["value", "things", "literal"] ["value", "things"] (defScope s_is_part) := ⟨rfl, rfl, rfl, by decide +kernel, rfl, by decide +kernel, by decide +kernel⟩
def spIsPart : Sp := fun vs H Q _ => ∃ (v : V) (b : Bar) (t : Option Int), vs = [v, thV t] ∧ At H v (dBar b) ∧ b.length ≤ 1000 ∧ insB b t = true ∧ ascB b = true ∧ ∀ H', Ex H H' → Q (.bl true) H'
theorem ok_is_part (D : Dfn K mg "is_part" s_is_part ["value", "things"]) (z : Z mg) (O_is_literal : Ok P w K mg base 3 "is_literal" ["value", "things"] spIsLiteral) (O_asc : Ok P w K mg base 1 "is_ascending" ["values"] (spIsAscL K)) : Ok P w K mg base 4 "is_part" ["value", "things"] spIsPart := D.ok fun f fd F => by
  refine F.ok sc_is_part (fun vs H Q E h => ?_) (fun cdv A outer s H vs Q E hr h => ?_)
  · obtain ⟨v, b, t, rfl, _⟩ := h
    rfl
  · obtain ⟨v, b, t, rfl, hv, hl, hi, ha, q⟩ := h
    obtain ⟨a, xs, rfl, hx, hxs⟩ := hv.bar
    have lx : xs.length = b.length := by rw [hxs.1, List.length_map]
    refine ⟨_, (pss_cons (ps_if (pt_cmpR op_isNotTy (pe_callTy call_type1 (by rfl) z.type (by decide +kernel) (pa_cons (pv 0) pa_nil)) (pe_tyn (n := "tuple") (by rfl) z.tuple (by decide +kernel)) (nomark _)) (pss_one (ps_ret pe_bl)) pss_nil)
      (pss_cons (ps_if (pt_not (pt_val (pe_callB (cr_all rfl) (by rfl) z.all (by decide +kernel) (pa_cons (pe_lc (own := [("literal", 2)]) (g := gName 2) rfl sc_is_part.nd (pi_tup (pv 0)) (blkOk_by (N := ["value", "things", "literal"]) (own := [("literal", 2)]) (sc := defScope s_is_part) (by decide +kernel)) (fun _ _ _ _ _ => pg_name (i := 2) sc_is_part.nd rfl (Or.inl rfl)) (fun _ _ _ _ _ => pts_nil) (fun _ _ _ _ _ => (pe_o O_is_literal hr (pa_cons (pv 2) (pa_cons (pv 1) pa_nil))))) pa_nil)))) (pss_one (ps_ret pe_bl)) pss_nil)
      (pss_one (ps_ret (pe_o O_asc (hr.mono (by decide)) (pa_cons (pe_lc (own := [("literal", 2)]) (g := gName 2) rfl sc_is_part.nd (pi_tup (pv 0)) (blkOk_by (N := ["value", "things", "literal"]) (own := [("literal", 2)]) (sc := defScope s_is_part) (by decide +kernel)) (fun _ _ _ _ _ => pg_name (i := 2) sc_is_part.nd rfl (Or.inl rfl)) (fun _ _ _ _ _ => pts_nil) (fun _ _ _ _ _ => (pe_ix (ix_any (K := K)) (pv 2) pe_int (fun _ _ => rfl)))) pa_nil)))))), ?_⟩
    refine ⟨_, rfl, _, _, rfl, .tup (Evl.st_of hx), _, _, rfl, rfl, _, rfl, ?_⟩
    refine ⟨_, rfl, a, rfl, ⟨_, Evl.st_of hx⟩, fun Dl hD => ?_⟩
    refine lc_tup (K := K) (xs := xs) (fun i H' => Ex H H' ∧ H' Dl = some (.lst ((List.replicate i true).map V.bl))) ⟨Evl.Ex.new hD, by rw [upd_same]; rfl⟩ (fun i H' _ p => Evl.ex_t p.1 (Evl.st_of hx)) ?_ ?_
    · rintro i x H1 hxi ⟨e1, h1⟩
      obtain ⟨s, hs, hS⟩ := ats_get hxs hxi
      have hi2 := (List.getElem?_eq_some_iff.mp hxi).1
      refine ⟨rfl, _, rfl, _, rfl, x, s, t, rfl, hS.ex e1, fun H2 e2 => ?_⟩
      rw [(List.all_eq_true.mp hi) s (List.mem_of_getElem? hs)]
      refine ⟨_, e2 _ _ h1, szl (by rw [List.length_map, List.length_replicate]; omega), Evl.Ex.mut (e1.trans e2) hD, ?_⟩
      rw [upd_same, List.replicate_succ', List.map_append]
      rfl
    · rintro H1 ⟨e1, h1⟩
      refine ⟨Dl, _, rfl, Evl.sq_of h1, _, rfl, ?_⟩
      rw [show (List.replicate xs.length true).all id = true by simp]
      refine ⟨_, rfl, a, rfl, ⟨_, Evl.ex_t e1 (Evl.st_of hx)⟩, fun D2 nD2 => ?_⟩
      refine lc_tup (K := K) (xs := xs) (fun i H' => Ex H1 H' ∧ H' D2 = some (.lst (((b.take i).map fun s : Sgn => (s.1 : Int)).map V.int))) ⟨Evl.Ex.new nD2, by rw [upd_same]; rfl⟩ (fun i H' _ p => Evl.ex_t (e1.trans p.1) (Evl.st_of hx)) ?_ ?_
      · rintro i x H2 hxi ⟨e2, h2⟩
        obtain ⟨s, hs, hS⟩ := ats_get hxs hxi
        obtain ⟨ts, rfl, hts⟩ := hS.sgn
        have hi2 := (List.getElem?_eq_some_iff.mp hxi).1
        refine ⟨rfl, _, rfl, .inr ⟨ts, _, 0, .int s.1, rfl, rfl, Evl.st_of (e2 _ _ (e1 _ _ hts)), rfl, _, h2, szl (by rw [List.length_map, List.length_map, List.length_take]; omega), Evl.Ex.mut e2 nD2, ?_⟩⟩
        rw [upd_same, take_snoc hs, List.map_append, List.map_append]
        rfl
      · rintro H2 ⟨e2, h2⟩
        rw [List.take_of_length_le (by omega)] at h2
        refine ⟨D2, _, rfl, Evl.sq_of h2, by rw [List.length_map]; exact hl, fun H3 e3 => ?_⟩
        rw [show asc (b.map fun s : Sgn => (s.1 : Int)) = true from ha]
        exact q H3 ((e1.trans e2).trans e3)
theorem sc_check_part : FnScope ["part", "things"] ["part", "things"] (defScope s_check_part) := ⟨rfl, rfl, rfl, by decide +kernel, rfl, by decide +kernel, by decide +kernel⟩
def spCheckPart : Sp := fun vs H Q _ => ∃ (v : V) (b : Bar) (t : Option Int), vs = [v, thV t] ∧ At H v (dBar b) ∧ b.length ≤ 1000 ∧ insB b t = true ∧ ascB b = true ∧ ∀ H', Ex H H' → Q .non H'
theorem ok_check_part (D : Dfn K mg "check_part" s_check_part ["part", "things"]) (O_is_part : Ok P w K mg base 4 "is_part" ["value", "things"] spIsPart) : Ok P w K mg base 5 "check_part" ["part", "things"] spCheckPart := D.ok fun f fd F => by
  refine F.ok sc_check_part (fun vs H Q E h => ?_) (fun cdv A outer s H vs Q E hr h => ?_)
  · obtain ⟨v, b, t, rfl, _⟩ := h
    rfl
  · obtain ⟨v, b, t, rfl, hv, hl, hi, ha, q⟩ := h
    refine ⟨_, (pss_one (ps_if (pt_not (pt_val (pe_o O_is_part hr (pa_cons (pv 0) (pa_cons (pv 1) pa_nil))))) (pss_one ps_never) pss_nil)), ?_⟩
    refine ⟨_, rfl, _, rfl, v, b, t, rfl, hv, hl, hi, ha, fun H1 e1 => ⟨_, rfl, q H1 e1⟩⟩
end
end TW
set_option Elab.async false
set_option linter.all false
set_option maxRecDepth 100000
set_option maxHeartbeats 4000000
namespace TW
open PySem PySem.Spec PyProof.Rows L2
def LotsOk (L : Lots) : Prop := ∀ p ∈ L, lotOk p.2
def fitL (L : Lots) (b : Bar) : List (Addr × List Int) := L.filter fun p => b.all (mt p.2)
section
variable {P : Program} {w : World} {K : PySem.W.Frag} {mg : Str → Option Value} {base : Heap} {C : Addr}
/-! contrary -/
theorem sc_contrary : FnScope ["literal", "thing", "word"] ["literal"] (defScope s_contrary) := ⟨rfl, rfl, rfl, by decide +kernel, rfl, by decide +kernel, by decide +kernel⟩
def spContrary : Sp := fun vs H Q _ => ∃ (G : Hp) (l : List (Addr × HO)) (v : V) (s : Sgn), vs = [v] ∧ Has G H l ∧ At G v (dSgn s) ∧ ∀ (G' H' : Hp) (x : V), Ex G G' → Has G' H' l → At G' x (dSgn (s.1, !s.2)) → Q x H'
theorem sw_not (b : Bool) : (if decide (V.str (sw b) = V.str "in") = true then V.str "out" else V.str "in") = V.str (sw (!b)) := by
  rw [sw_in]
  cases b <;> rfl
theorem fn_contrary {f : Addr} {fd : FuncData} (F : Fun K "contrary" "contrary" s_contrary f fd) (O_check_literal : Ok P w K mg base 4 "check_literal" ["literal", "things"] spCheckLiteral) : FnOk P w K mg base CX0 5 f fd ["literal"] spContrary := by
  refine F.ok sc_contrary (fun vs H Q E h => ?_) (fun cdv A outer s H vs Q E hr h => ?_)
  · obtain ⟨G, l, v, s, rfl, _⟩ := h
    rfl
  · obtain ⟨G, l, v, s, rfl, S, hv, q⟩ := h
    obtain ⟨a, rfl, ha⟩ := hv.sgn
    refine ⟨_, (pss_cons (ps_expr (pe_o O_check_literal hr (pa_cons (pv 0) (pa_cons pe_non pa_nil))))
      (pss_cons (ps_asg (pv 0) (pg_tup rfl (pgs_cons (pg_name (i := 1) sc_contrary.nd rfl (Or.inl rfl)) (pgs_cons (pg_name (i := 2) sc_contrary.nd rfl (Or.inl rfl)) pgs_nil))))
      (pss_one (ps_ret (pe_tup (pa_cons (pv 1) (pa_cons (pe_ifExp (pt_cmpR op_eq (pv 2) pe_str (nomark _)) pe_str pe_str) pa_nil))))))), ?_⟩
    refine ⟨_, rfl, _, s, none, rfl, hv.ex S.ex, rfl, fun H1 e1 => ?_⟩
    have S1 := S.go e1
    refine ⟨_, rfl, a, _, rfl, Evl.st_of (S1.ex _ _ ha), rfl, _, _, rfl, _, _, rfl, rfl, ?_⟩
    refine ⟨_, rfl, _, rfl, rfl, _, rfl, ?_⟩
    have fin : ∀ x, x = V.str (sw (!s.2)) → (2 ≤ sizeLine ∧ ∀ p, H1 p = none → Q (.ref p) (upd H1 p (.tup [.int s.1, x]))) := fun x hx => by
      subst hx
      refine ⟨sz (by decide), fun p np => ?_⟩
      have S2 := S1.new (o := .tup [.int s.1, .str (sw (!s.2))]) np
      exact q _ _ _ S2.exS S2.sink (at_sgn (s := (s.1, !s.2)) upd_same)
    refine ite2 (fun hc => fin _ ?_) (fun hc => fin _ ?_)
    · rw [← sw_not, if_pos hc]
    · rw [← sw_not, if_neg hc]
/-! fits -/
theorem sc_fits : FnScope ["lot", "part", "literal"] ["lot", "part"] (defScope s_fits) := ⟨rfl, rfl, rfl, by decide +kernel, rfl, by decide +kernel, by decide +kernel⟩
def spFits (K : PySem.W.Frag) : Sp := fun vs H Q _ => ∃ (a : Addr) (ns : List Int) (v : V) (b : Bar), vs = [.ref a, v] ∧ SqT K H a (ns.map V.int) ∧ lotOk ns ∧ At H v (dBar b) ∧ b.length ≤ 1000 ∧ ascB b = true ∧ ∀ H', Ex H H' → Q (.bl (b.all (mt ns))) H'
theorem ins_none (b : Bar) : insB b none = true := List.all_eq_true.mpr fun _ _ => rfl
theorem fn_fits {f : Addr} {fd : FuncData} (F : Fun K "fits" "fits" s_fits f fd) (z : Z mg) (O_check_lot : Ok P w K mg base 4 "check_lot" ["lot", "things"] (spCheckLot K)) (O_check_part : Ok P w K mg base 5 "check_part" ["part", "things"] spCheckPart) (O_meets : Ok P w K mg base 1 "meets" ["lot", "literal"] (spMeets K)) : FnOk P w K mg base CX0 6 f fd ["lot", "part"] (spFits K) := by
  refine F.ok sc_fits (fun vs H Q E h => ?_) (fun cdv A outer s H vs Q E hr h => ?_)
  · obtain ⟨a, ns, v, b, rfl, _⟩ := h
    rfl
  · obtain ⟨a, ns, v, b, rfl, ha, lk, hv, hl, hasc, q⟩ := h
    obtain ⟨t, ys, rfl, ht, hy⟩ := hv.bar
    have ly : ys.length = b.length := by rw [hy.1, List.length_map]
    refine ⟨_, (pss_cons (ps_expr (pe_o O_check_lot (hr.mono (by decide)) (pa_cons (pv 0) (pa_cons pe_non pa_nil))))
      (pss_cons (ps_expr (pe_o O_check_part hr (pa_cons (pv 1) (pa_cons pe_non pa_nil))))
      (pss_one (ps_ret (pe_callB (cr_all rfl) (by rfl) z.all (by decide +kernel) (pa_cons (pe_lc (own := [("literal", 2)]) (g := gName 2) rfl sc_fits.nd (pi_tup (pv 1)) (blkOk_by (N := ["lot", "part", "literal"]) (own := [("literal", 2)]) (sc := defScope s_fits) (by decide +kernel)) (fun _ _ _ _ _ => pg_name (i := 2) sc_fits.nd rfl (Or.inl rfl)) (fun _ _ _ _ _ => pts_nil) (fun _ _ _ _ _ => (pe_o O_meets (hr.mono (by decide)) (pa_cons (pv 0) (pa_cons (pv 2) pa_nil))))) pa_nil)))))), ?_⟩
    refine ⟨_, rfl, a, ns, none, rfl, ha, lk.2.2, isLot_of lk, fun H1 e1 => ?_⟩
    refine ⟨_, rfl, _, b, none, rfl, hv.ex e1, hl, ins_none b, hasc, fun H2 e2 => ?_⟩
    have e12 := e1.trans e2
    refine ⟨_, rfl, t, rfl, ⟨_, Evl.ex_t e12 (Evl.st_of ht)⟩, fun Dl hD => ?_⟩
    refine lc_tup (K := K) (xs := ys) (fun j H' => Ex H2 H' ∧ H' Dl = some (.lst ((((b.take j).map (mt ns))).map V.bl))) ⟨Evl.Ex.new hD, by rw [upd_same]; rfl⟩ (fun j H' _ p => Evl.ex_t (e12.trans p.1) (Evl.st_of ht)) ?_ ?_
    · rintro j y H3 hj ⟨e3, h3⟩
      obtain ⟨s, hs, hS⟩ := ats_get hy hj
      refine ⟨rfl, _, rfl, _, rfl, a, ns, y, s, rfl, Evl.ex_t (e12.trans e3) ha, hS.ex (e12.trans e3), _, h3, szl ?_, Evl.Ex.mut e3 hD, ?_⟩
      · rw [List.length_map, List.length_map, List.length_take]
        have := (List.getElem?_eq_some_iff.mp hj).1
        omega
      · rw [upd_same, take_any (mt ns) hs, List.map_append]
        rfl
    · rintro H3 ⟨e3, h3⟩
      rw [List.take_of_length_le (by omega)] at h3
      refine ⟨Dl, _, rfl, Evl.sq_of h3, ?_⟩
      rw [all_id]
      exact q H3 (e12.trans e3)
/-! _fitting_lots -/
theorem sc__fitting_lots : FnScope ["table", "part", "lot"] ["table", "part"] (defScope s_fitting_lots) := ⟨rfl, rfl, rfl, by decide +kernel, rfl, by decide +kernel, by decide +kernel⟩
def spFitting (C : Addr) : Sp := fun vs H Q _ => ∃ (a : Addr) (n : Nat) (L : Lots) (v : V) (b : Bar), vs = [.ref a, v] ∧ TabAt C H a n L ∧ LotsOk L ∧ L.length ≤ 1000 ∧ At H v (dBar b) ∧ b.length ≤ 1000 ∧ ascB b = true ∧
  ∀ (t : Addr) (H' : Hp), H t = none → Ex H H' → H' t = some (.lst (refs (fitL L b))) → Q (.ref t) H'
theorem ok_fitting_lots {fi : Addr} {fdi : FuncData} (D : Dfn K mg "fitting_lots" s_fitting_lots ["table", "part"]) (I : TI P w K mg base C fi fdi) (O_fits : Ok P w K mg base 6 "fits" ["lot", "part"] (spFits K)) : Ok P w K mg base 7 "fitting_lots" ["table", "part"] (spFitting C) := D.ok fun f fd F => by
  refine F.ok sc__fitting_lots (fun vs H Q E h => ?_) (fun cdv A outer s H vs Q E hr h => ?_)
  · obtain ⟨a, n, L, v, b, rfl, _⟩ := h
    rfl
  · obtain ⟨a, n, L, v, b, rfl, ⟨dx, l, h1, h2, h3⟩, hL, lL, hv, hl, hasc, q⟩ := h
    refine ⟨_, (pss_one (ps_ret (pe_lc (own := [("lot", 2)]) (g := gName 2) rfl sc__fitting_lots.nd (pi_own (f := "_lots") (pv 0) I.at_ I.fn I.ok I.b (hr.mono (by decide))) (blkOk_by (N := ["table", "part", "lot"]) (own := [("lot", 2)]) (sc := defScope s_fitting_lots) (by decide +kernel)) (fun _ _ _ _ _ => pg_name (i := 2) sc__fitting_lots.nd rfl (Or.inl rfl)) (fun _ _ _ _ _ => pts_one (pt_val (pe_o O_fits hr (pa_cons (pv 2) (pa_cons (pv 1) pa_nil))))) (fun _ _ _ _ _ => (pv 2))))), ?_⟩
    refine ⟨_, rfl, a, dx, _, l, _, rfl, h1, tf_lots n l, Evl.st_of h2, fun Dl hD => ?_⟩
    refine lc_tup (K := K) (a := l) (xs := refs L) (fun i H' => Ex H H' ∧ H' Dl = some (.lst (refs ((L.take i).filter fun p => b.all (mt p.2))))) ⟨Evl.Ex.new hD, by rw [upd_same]; rfl⟩ (fun i H' _ p => Evl.ex_t p.1 (Evl.st_of h2)) ?_ ?_
    · rintro i x H1 hi ⟨e1, hd⟩
      obtain ⟨p, hp, rfl⟩ := refs_get hi
      have hpm := List.mem_of_getElem? hp
      refine ⟨rfl, _, rfl, _, rfl, p.1, p.2, v, b, rfl, Evl.st_of (e1 _ _ (h3 p hpm)), hL p hpm, hv.ex e1, hl, hasc, fun H2 e2 => ⟨_, rfl, ?_⟩⟩
      cases hq : b.all (mt p.2) with
      | true =>
        refine ⟨_, rfl, _, e2 _ _ hd, szl ?_, Evl.Ex.mut (e1.trans e2) hD, ?_⟩
        · rw [refs_len]
          have := filt_len (fun p : Addr × List Int => b.all (mt p.2)) L i
          omega
        · rw [upd_same, filt_yes (f := fun p : Addr × List Int => b.all (mt p.2)) hp hq]
          unfold refs
          rw [List.map_append]
          rfl
      | false =>
        refine ⟨e1.trans e2, ?_⟩
        rw [filt_no (f := fun p : Addr × List Int => b.all (mt p.2)) hp hq]
        exact e2 _ _ hd
    · rintro H1 ⟨e1, hd⟩
      rw [refs_len, List.take_length] at hd
      exact q Dl H1 hD e1 hd
/-! can_be -/
theorem sc_can_be : FnScope ["table", "part"] ["table", "part"] (defScope s_can_be) := ⟨rfl, rfl, rfl, by decide +kernel, rfl, by decide +kernel, by decide +kernel⟩
def canB (lots : List (List Int)) (b : Bar) : Bool := lots.any fun ns => b.all (mt ns)
def spCanBe (C : Addr) : Sp := fun vs H Q _ => ∃ (a : Addr) (n : Nat) (L : Lots) (v : V) (b : Bar), vs = [.ref a, v] ∧ TabAt C H a n L ∧ LotsOk L ∧ L.length ≤ 1000 ∧ At H v (dBar b) ∧ b.length ≤ 1000 ∧ insB b (some (n : Int)) = true ∧ ascB b = true ∧ ∀ H', Ex H H' → Q (.bl (canB (L.map (·.2)) b)) H'
theorem can_len (L : Lots) (b : Bar) : decide (((fitL L b).length : Int) > 0) = canB (L.map (·.2)) b := by
  unfold canB fitL
  rw [Bool.eq_iff_iff, decide_eq_true_eq, List.any_map, List.any_eq_true]
  constructor
  · intro h
    obtain ⟨p, hp⟩ := List.exists_mem_of_length_pos (l := L.filter fun p => b.all (mt p.2)) (by omega)
    exact ⟨p, (List.mem_filter.mp hp).1, (List.mem_filter.mp hp).2⟩
  · rintro ⟨p, hp, hq⟩
    have := List.length_pos_of_mem (List.mem_filter.mpr ⟨hp, hq⟩ : p ∈ L.filter fun p => b.all (mt p.2))
    omega
theorem fn_can_be {f gp gf : Addr} {fd gfd : FuncData} (F : Fun K "can_be" "can_be" s_can_be f fd) (z : Z mg) (T : TC K mg C) (PT : TG P w K mg base C gp gf gfd "things" (spThings C)) (O_check_table : Ok P w K mg base 1 "check_table" ["table"] (spCheckTable C)) (O_check_part : Ok P w K mg base 5 "check_part" ["part", "things"] spCheckPart)
    (O_fitting : Ok P w K mg base 7 "fitting_lots" ["table", "part"] (spFitting C)) : FnOk P w K mg base CX0 8 f fd ["table", "part"] (spCanBe C) := by
  refine F.ok sc_can_be (fun vs H Q E h => ?_) (fun cdv A outer s H vs Q E hr h => ?_)
  · obtain ⟨a, n, L, v, b, rfl, _⟩ := h
    rfl
  · obtain ⟨a, n, L, v, b, rfl, tab, hL, lL, hv, hl, hin, hasc, q⟩ := h
    obtain ⟨dx, l, h1, h2, h3⟩ := id tab
    refine ⟨_, (pss_cons (ps_expr (pe_o O_check_table (hr.mono (by decide)) (pa_cons (pv 0) pa_nil)))
      (pss_cons (ps_expr (pe_o O_check_part (hr.mono (by decide)) (pa_cons (pv 1) (pa_cons (pe_prop (pv 0) T.cl PT.at_ PT.ok (hr.mono (by decide)) PT.b .nil pass0 rfl) pa_nil))))
      (pss_one (ps_ret (pe_cmpR op_gt (pe_callB call_len_seq (by rfl) z.len PySem.boot_len (pa_cons (pe_o O_fitting hr (pa_cons (pv 0) (pa_cons (pv 1) pa_nil))) pa_nil)) pe_int (nomark _)))))), ?_⟩
    refine ⟨_, rfl, a, n, L, rfl, tab, ?_⟩
    refine ⟨_, rfl, _, rfl, a, dx, _, rfl, h1, a, n, L, rfl, tab, v, b, some (n : Int), rfl, hv, hl, hin, hasc, fun H1 e1 => ?_⟩
    refine ⟨_, rfl, _, rfl, a, n, L, v, b, rfl, tab.ex e1, hL, lL, hv.ex e1, hl, hasc, fun t H2 nt e2 ht => ?_⟩
    refine ⟨t, _, rfl, .inl (Evl.sq_of ht), _, _, rfl, rfl, ?_⟩
    rw [refs_len]
    have h := q H2 (e1.trans e2)
    rw [← can_len] at h
    exact h
def spMetAll : Sp := fun vs H Q _ => ∃ (m : Int) (v : V) (b : Bar), vs = [.int m, v] ∧ At H v (dBar b) ∧ b.length ≤ 1000 ∧ ∀ H', Ex H H' → Q (.bl (b.all (met m))) H'
def spLawFitting (K : PySem.W.Frag) : Sp := fun vs H Q _ => ∃ (a : Addr) (ms : List Int) (v : V) (b : Bar), vs = [.ref a, v] ∧ SqL K H a (ms.map V.int) ∧ ms.length ≤ 1000 ∧ At H v (dBar b) ∧ b.length ≤ 1000 ∧
  ∀ (t : Addr) (H' : Hp), H t = none → Ex H H' → H' t = some (.lst ((ms.filter fun m => b.all (met m)).map V.int)) → Q (.ref t) H'
end
end TW
set_option Elab.async false
set_option linter.all false
set_option maxRecDepth 100000
set_option maxHeartbeats 4000000
namespace TW
open PySem PySem.Spec PyProof.Rows L2
/-- things ascend -/
def UpB (b : Bar) : Prop := b.Pairwise fun s t => s.1 < t.1
theorem upB_asc {b : Bar} (h : UpB b) : ascB b = true := by
  unfold ascB
  refine up_asc ?_
  unfold Up
  rw [List.pairwise_map]
  exact h.imp fun q => by omega
theorem upB_snoc {b : Bar} {s : Sgn} (h : UpB b) (l : ∀ t ∈ b, t.1 < s.1) : UpB (b ++ [s]) := by
  unfold UpB
  rw [List.pairwise_append]
  exact ⟨h, List.pairwise_singleton _ _, fun t ht u hu => by rw [List.mem_singleton.mp hu]; exact l t ht⟩
theorem ins_lt {b : Bar} {n : Nat} (h : ∀ s ∈ b, s.1 < n) : insB b (some (n : Int)) = true := List.all_eq_true.mpr fun s hs => decide_eq_true (by have := h s hs; omega)
/-- a literal of the k-th thing is told, or not -/
def tPick (lo : Bool) : TS := fun D σ H => ∃ (k dr : Nat) (held : Int) (o : Addr) (ys : List V) (G : Hp) (l : List (Addr × HO)), σ[3]? = some (some (.int held)) ∧ σ[4]? = some (some (.bl lo)) ∧ σ[5]? = some (some (.ref o)) ∧ σ[6]? = some (some (.int k)) ∧ σ[7]? = some (some (.int dr)) ∧
  Has G H ((o, .lst ys) :: l) ∧ ys.length ≤ 1000 ∧ D.nx σ H ∧ ∀ (b : Bool) (G' H' : Hp) (x : V), Ex G G' → Has G' H' ((o, .lst (ys ++ [x])) :: l) → At G' x (dSgn (k, b)) → D.nx σ H'
section
variable {P : Program} {w : World} {K : PySem.W.Frag} {mg : Str → Option Value} {base : Heap} {C : Addr}
theorem sc_law_some_part : FnScope ["well", "wide", "masks", "held", "loose", "out", "k", "drawn"] ["well", "wide", "masks"] (defScope s__law_some_part) := ⟨rfl, rfl, rfl, by decide +kernel, rfl, by decide +kernel, by decide +kernel⟩
def spSomePart : Sp := fun vs H Q _ => ∃ (G : Hp) (l : List (Addr × HO)) (p a : Addr) (o : HO) (k n : Nat) (ms : List Int), vs = [.ref p, .int n, .ref a] ∧ Has G H ((p, o) :: l) ∧ WellO k o ∧ k < 10 ^ 7 ∧ n ≤ 1000 ∧ G a = some (.lst (ms.map V.int)) ∧ ms ≠ [] ∧ ms.length ≤ 1000 ∧
  ∀ (G' H' : Hp) (o' : HO) (x : V) (b : Bar), Ex G G' → Has G' H' ((p, o') :: l) → WellO (k + 1002) o' → At G' x (dBar b) → b.length ≤ n → (∀ s ∈ b, s.1 < n) → UpB b → Q x H'
theorem ok_some_part (D : Dfn K mg "_law_some_part" s__law_some_part ["well", "wide", "masks"]) (z : Z mg) (O_dip : Ok P w K mg base 1 "_law_dip" ["well", "upto"] spDipW) : Ok P w K mg base 2 "_law_some_part" ["well", "wide", "masks"] spSomePart := D.ok fun f fd F => by
  refine F.ok sc_law_some_part (fun vs H Q E h => ?_) (fun cdv A outer s H vs Q E hr h => ?_)
  · obtain ⟨G, l, p, a, o, k, n, ms, rfl, _⟩ := h
    rfl
  · obtain ⟨G, l, p, a, o, k, n, ms, rfl, S, wo, hk, hn, ha, ne, lm, q⟩ := h
    have pms : 0 < ms.length := List.length_pos_iff.mpr ne
    have lmm : (ms.map V.int).length = ms.length := List.length_map _
    refine ⟨_, (pss_cons (ps_set (i := 3) sc_law_some_part.nd rfl (Or.inl rfl) (pe_ix ix_list (pv 2) (pe_o O_dip hr (pa_cons (pv 0) (pa_cons (pe_callB call_len_seq (by rfl) z.len PySem.boot_len (pa_cons (pv 2) pa_nil)) pa_nil))) (fun _ _ => rfl)))
      (pss_cons (ps_set (i := 4) sc_law_some_part.nd rfl (Or.inl rfl) (pe_cmpR op_eq (pe_o O_dip hr (pa_cons (pv 0) (pa_cons pe_int pa_nil))) pe_int (nomark _)))
      (pss_cons (ps_set (i := 5) sc_law_some_part.nd rfl (Or.inl rfl) (pe_lst pa_nil))
      (pss_cons (ps_for PassesOwn.never rfl (pi_range1 (by rfl) z.range (pa_cons (pv 1) pa_nil)) (pg_name (i := 6) sc_law_some_part.nd rfl (Or.inl rfl))
      (pss_cons (ps_set (i := 7) sc_law_some_part.nd rfl (Or.inl rfl) (pe_o O_dip hr (pa_cons (pv 0) (pa_cons pe_int pa_nil))))
      (pss_one (PS.imp (t' := fun D σ H => ∃ lo, tPick lo D σ H) (ps_if (PW.pt (pw_and (pt_val (pv 4)) (pw_and1 (pt_cmpR op_lt (pv 7) pe_int (nomark _))))) (pss_one (ps_expr (pe_bm PySem.F.plainAttrs_list PySem.F.slot_list_append PySem.F.type_list_append mt_append (pv 5) (pa_cons (pe_tup (pa_cons (pv 6) (pa_cons (pe_ix ix_list (pe_lst (pa_cons pe_str (pa_cons pe_str pa_nil))) (pv 7) (fun _ _ => rfl)) pa_nil))) pa_nil)))) (pss_one (ps_if (pt_cmpR op_lt (pv 7) pe_int (nomark _)) (pss_one (ps_expr (pe_bm PySem.F.plainAttrs_list PySem.F.slot_list_append PySem.F.type_list_append mt_append (pv 5) (pa_cons (pe_tup (pa_cons (pv 6) (pa_cons (pe_ix ix_list (pe_lst (pa_cons pe_str (pa_cons pe_str pa_nil))) (pe_op op_andM (pe_op op_shrN (pv 3) (pv 6)) pe_int) (fun _ _ => rfl)) pa_nil))) pa_nil)))) pss_nil)))
        (fun D σ H h => by
          obtain ⟨lo, k, dr, held, o, ys, G, l, h3, h4, h5, h6, h7, S, hz, q0, q1⟩ := h
          have cut2 : dr < 2 → ∃ b, atI [V.str "in", V.str "out"] (dr : Int) = some (.str (sw b)) := fun c => by
            have : dr = 0 ∨ dr = 1 := by omega
            rcases this with rfl | rfl
            · exact ⟨true, rfl⟩
            · exact ⟨false, rfl⟩
          have cut3 : ∃ b, atI [V.str "out", V.str "in"] (held / 2 ^ k % 2 ^ 1) = some (.str (sw b)) := by
            rw [Int.pow_one]
            rcases Int.emod_two_eq (held / 2 ^ k) with e | e <;> rw [e]
            · exact ⟨false, rfl⟩
            · exact ⟨true, rfl⟩
          have app : ∀ (b : Bool) (t u : Addr) (L : List V), H t = none → (upd H t (.lst L)) u = none → ∃ xs, (upd (upd H t (.lst L)) u (.tup [.int k, .str (sw b)])) o = some (.lst xs) ∧ xs.length < sizeLine ∧ D.nx σ (upd (upd (upd H t (.lst L)) u (.tup [.int k, .str (sw b)])) o (.lst (xs ++ [V.ref u]))) := fun b t u L nt nu => by
            have S3 := (S.new (o := .lst L) nt).new (o := .tup [.int k, .str (sw b)]) nu
            have S4 : Has G _ ((u, .tup [.int k, .str (sw b)]) :: (t, .lst L) :: (o, .lst (ys ++ [V.ref u])) :: l) := S3.set 2 rfl
            exact ⟨ys, S3.get 2 rfl, szl (by omega), q1 b _ _ _ S4.drop2.exS S4.drop2.sink (at_sgn (s := (k, b)) upd_same)⟩
          have els : tIfS (tTest (tOp (rI0 fun i j => .bl (decide (i < j))) (tVar 7) (tC (.int 2)))) (tDrop (tBM K "list" rAppend (tVar 5) (tCons (tTup (tCons (tVar 6) (tCons (tOp (rIxL K) (tLst (tCons (tC (.str "out")) (tCons (tC (.str "in")) tNil))) (tOp (fun x y H Q => ∃ (i : Int) (k : Nat), x = .int i ∧ y = .int (2 ^ k - 1) ∧ Q (.int (i % 2 ^ k)) H) (tOp (fun x y H Q => ∃ (i : Int) (k : Nat), x = .int i ∧ y = .int (k : Int) ∧ Q (.int (i / 2 ^ k)) H) (tVar 3) (tVar 6)) (tC (.int 1)))) tNil))) tNil))) tNext D σ H := by
            refine ⟨_, h7, _, _, rfl, rfl, _, rfl, ?_⟩
            refine ite2 (fun _ => ?_) (fun _ => q0)
            obtain ⟨b, hb⟩ := cut3
            refine ⟨_, h5, .inl ⟨rfl, _, Evl.sq_of (S.get 0 rfl)⟩, _, h6, sz (by show 2 ≤ 100000; decide), fun t nt => ⟨_, h3, _, h6, held, k, rfl, rfl, _, 1, rfl, rfl, t, _, _, _, rfl, rfl, Evl.sq_of upd_same, hb, sz (by show 2 ≤ 100000; decide), fun u nu => ?_⟩⟩
            obtain ⟨xs, g1, g2, g3⟩ := app b t u _ nt nu
            exact ⟨o, xs, _, rfl, rfl, g1, g2, g3⟩
          refine ⟨_, h4, _, rfl, ?_⟩
          cases lo with
          | false => exact els
          | true =>
            refine ⟨_, h7, _, _, rfl, rfl, _, rfl, ?_⟩
            refine ite2 (fun hc => ?_) (fun _ => els)
            obtain ⟨b, hb⟩ := cut2 (by have := of_decide_eq_true hc; omega)
            refine ⟨_, h5, .inl ⟨rfl, _, Evl.sq_of (S.get 0 rfl)⟩, _, h6, sz (by show 2 ≤ 100000; decide), fun t nt => ⟨_, h7, t, _, _, _, rfl, rfl, Evl.sq_of upd_same, hb, sz (by show 2 ≤ 100000; decide), fun u nu => ?_⟩⟩
            obtain ⟨xs, g1, g2, g3⟩ := app b t u _ nt nu
            exact ⟨o, xs, _, rfl, rfl, g1, g2, g3⟩)))))
      (pss_one (ps_ret (pe_callTy call_tuple_of (by rfl) z.tuple (by decide +kernel) (pa_cons (pv 5) pa_nil)))))))), ?_⟩
    refine ⟨_, rfl, _, rfl, _, rfl, a, _, rfl, .inl (Evl.sq_of (S.ex _ _ ha)), p, (ms.map V.int).length, o, k, rfl, S.get 0 rfl, wo, by omega, by omega, by omega, fun r o1 hr1 wo1 => ?_⟩
    have S1 : Has G _ ((p, o1) :: l) := S.set 0 rfl
    generalize upd H p o1 = H1 at S1
    have hg : (ms.map V.int)[r]? = some (.int (ms[r]'(by omega))) := by
      rw [List.getElem?_map, List.getElem?_eq_getElem (by omega)]
      rfl
    refine ⟨a, _, ((r : Nat) : Int), _, rfl, rfl, Evl.sq_of (S1.ex _ _ ha), atI_nat hg, ?_⟩
    generalize ms[r]'(by omega) = held
    refine ⟨_, rfl, p, 3, o1, k + 1, rfl, S1.get 0 rfl, wo1, by omega, by decide, by decide, fun r2 o2 hr2 wo2 => ?_⟩
    have S2 : Has G _ ((p, o2) :: l) := S1.set 0 rfl
    generalize upd H1 p o2 = H2 at S2
    refine ⟨rfl, ?_⟩
    generalize decide (V.int (r2 : Int) = V.int 0) = lo
    refine ⟨sz (by show 0 ≤ 100000; decide), fun D nD => ?_⟩
    have S3 := S2.new (o := .lst []) nD
    generalize upd H2 D (.lst []) = H3 at S3
    refine ⟨_, rfl, n, rfl, by omega, by omega, ?_⟩
    rw [show ((n : Nat) : Int).toNat = n by omega]
    refine for_range (lo := 0) (n := n) (fun i σ H' => ∃ (v6 v7 : Option V) (G' : Hp) (o' : HO) (ys : List V) (b : Bar), σ = [some (.ref p), some (.int n), some (.ref a), some (.int held), some (.bl lo), some (.ref D), v6, v7] ∧ Ex G G' ∧ Has G' H' ((D, .lst ys) :: (p, o') :: l) ∧ WellO (k + 2 + i) o' ∧ Ats G' ys (b.map dSgn) ∧ b.length ≤ i ∧ (∀ s ∈ b, s.1 < i) ∧ UpB b)
      ⟨none, none, G, o2, [], [], rfl, Evl.Ex.refl _, S3, wo2, .nil, Nat.le_refl _, fun s hs => absurd hs List.not_mem_nil, List.Pairwise.nil⟩ ?_ ?_
    · rintro i σ H4 hi ⟨v6, v7, G4, o4, ys, b, rfl, e4, S4, wo4, hy, lb, hb, ub⟩
      have ly : ys.length ≤ i := by rw [hy.1, List.length_map]; exact lb
      refine ⟨_, rfl, p, 4, o4, k + 2 + i, rfl, S4.get 1 rfl, wo4, by omega, by decide, by decide, fun dr o5 hdr wo5 => ?_⟩
      have S5 : Has G4 _ ((D, .lst ys) :: (p, o5) :: l) := S4.set 1 rfl
      generalize upd H4 p o5 = H5 at S5
      rw [Int.zero_add]
      refine ⟨lo, i, dr, held, D, ys, G4, _, rfl, rfl, rfl, rfl, rfl, S5, by omega, ?_, fun wd G6 H6 x e6 S6 ax => ?_⟩
      · exact ⟨_, _, G4, o5, ys, b, rfl, e4, S5, wo5, hy, by omega, fun s hs => by have := hb s hs; omega, ub⟩
      · refine ⟨_, _, G6, o5, ys ++ [x], b ++ [(i, wd)], rfl, e4.trans e6, S6, wo5, ?_, by rw [List.length_append]; show b.length + 1 ≤ i + 1; omega, fun s hs => ?_, upB_snoc ub fun t ht => hb t ht⟩
        · rw [List.map_append]
          exact (hy.ex e6).snoc ax
        · rcases List.mem_append.mp hs with h | h
          · have := hb s h
            omega
          · rw [List.mem_singleton.mp h]
            show i < i + 1
            omega
    · rintro σ H4 ⟨v6, v7, G4, o4, ys, b, rfl, e4, S4, wo4, hy, lb, hb, ub⟩
      refine ⟨_, rfl, D, ys, rfl, .inl ⟨Evl.sq_of (S4.get 0 rfl), fun t nt => ?_⟩⟩
      have S5 := S4.tail.new (o := .tup ys) nt
      exact q _ _ o4 _ b (e4.trans S5.exS) S5.sink (wo4.up (by omega)) (At.mkT upd_same (hy.ex S5.exS)) lb hb ub
end
end TW
set_option Elab.async false
set_option linter.all false
set_option maxRecDepth 100000
set_option maxHeartbeats 4000000
namespace TW
open PySem PySem.Spec PyProof.Rows L2
/-! one turn of the law's loop over the pool -/
def nsT (dr : Nat) (x : Nat) (ns : List Int) : List Int := if dr % 2 = 0 then ns ++ [(x : Int)] else ns
def b1T (dr : Nat) (x : Nat) (b : Bar) : Bar := if dr < 2 then b ++ [(x, decide (dr = 0))] else b
def c3T (dr man : Nat) : Bool := decide ((dr : Int) = 5 - (man : Int)) && decide (0 < man)
def b2T (dr man : Nat) (x : Nat) (b : Bar) : Bar := if c3T dr man = true then b ++ [(x, decide (man = 2))] else b
theorem mt_other {x : Nat} {ns : List Int} {dr : Nat} {s : Sgn} (h : s.1 ≠ x) : mt (nsT dr x ns) s = mt ns s := by
  unfold mt nsT
  split
  · have : decide ((s.1 : Int) ∈ ns ++ [(x : Int)]) = decide ((s.1 : Int) ∈ ns) := by
      rw [Bool.eq_iff_iff, decide_eq_true_eq, decide_eq_true_eq, List.mem_append, List.mem_singleton]
      constructor
      · rintro (q | q)
        · exact q
        · omega
      · exact .inl
    rw [this]
  · rfl
theorem mt_this {x : Nat} {ns : List Int} {dr : Nat} {c : Bool} (h : (x : Int) ∉ ns) : mt (nsT dr x ns) (x, c) = (decide (dr % 2 = 0) == c) := by
  unfold mt nsT
  by_cases e : dr % 2 = 0
  · rw [if_pos e, decide_eq_true e, decide_eq_true (List.mem_append.mpr (.inr (List.mem_singleton.mpr rfl)))]
  · rw [if_neg e, decide_eq_false e, decide_eq_false h]
theorem all_mt_other {x : Nat} {ns : List Int} {dr : Nat} {b : Bar} (h : ∀ s ∈ b, s.1 < x) : b.all (mt (nsT dr x ns)) = b.all (mt ns) := by
  induction b with
  | nil => rfl
  | cons s b ih => rw [List.all_cons, List.all_cons, mt_other (by have := h s List.mem_cons_self; omega), ih fun t ht => h t (List.mem_cons_of_mem _ ht)]
theorem turn_fine {x : Nat} {ns : List Int} {b : Bar} {dr man : Nat} {fine : Bool} (hdr : dr < 6) (hman : man < 3) (hb : ∀ s ∈ b, s.1 < x) (hx : (x : Int) ∉ ns) (hf : b.all (mt ns) = fine) (ub : UpB b) :
    (b2T dr man x (b1T dr x b)).all (mt (nsT dr x ns)) = (if c3T dr man = true then false else fine) ∧ UpB (b2T dr man x (b1T dr x b)) ∧ (∀ s ∈ b2T dr man x (b1T dr x b), s.1 < x + 1) ∧ (b2T dr man x (b1T dr x b)).length ≤ b.length + 1 := by
  have h0 := all_mt_other (dr := dr) (ns := ns) hb
  have one : ∀ c, (b ++ [((x, c) : Sgn)]).all (mt (nsT dr x ns)) = (fine && (decide (dr % 2 = 0) == c)) := fun c => by
    rw [List.all_append, h0, hf]
    show (fine && (mt (nsT dr x ns) (x, c) && true)) = _
    rw [mt_this hx, Bool.and_true]
  have up1 : ∀ c, UpB (b ++ [((x, c) : Sgn)]) := fun c => upB_snoc ub fun t ht => hb t ht
  have lt1 : ∀ c, ∀ s ∈ b ++ [((x, c) : Sgn)], s.1 < x + 1 := fun c s hs => by
    rcases List.mem_append.mp hs with h | h
    · have := hb s h
      omega
    · rw [List.mem_singleton.mp h]
      show x < x + 1
      omega
  have ln1 : ∀ c, (b ++ [((x, c) : Sgn)]).length ≤ b.length + 1 := fun c => by rw [List.length_append]; exact Nat.le_refl _
  cases hc : c3T dr man with
  | true =>
    unfold c3T at hc
    rw [Bool.and_eq_true, decide_eq_true_eq, decide_eq_true_eq] at hc
    have e1 : b1T dr x b = b := if_neg (by omega)
    have e2 : b2T dr man x (b1T dr x b) = b ++ [(x, decide (man = 2))] := by
      unfold b2T c3T
      rw [e1, decide_eq_true hc.1, decide_eq_true hc.2]
      rfl
    rw [e2, one]
    refine ⟨?_, up1 _, lt1 _, ln1 _⟩
    have : (decide (dr % 2 = 0) == decide (man = 2)) = false := by
      have : man = 1 ∨ man = 2 := by omega
      rcases this with rfl | rfl
      · rw [decide_eq_true (show dr % 2 = 0 by omega)]
        rfl
      · rw [decide_eq_false (show ¬ dr % 2 = 0 by omega)]
        rfl
    rw [this, Bool.and_false, if_pos rfl]
  | false =>
    have e2 : b2T dr man x (b1T dr x b) = b1T dr x b := by
      unfold b2T
      rw [hc]
      rfl
    rw [e2, if_neg (by decide)]
    unfold b1T
    split
    · rename_i h2
      rw [one]
      refine ⟨?_, up1 _, lt1 _, ln1 _⟩
      have : dr = 0 ∨ dr = 1 := by omega
      rcases this with rfl | rfl
      · exact Bool.and_true _
      · exact Bool.and_true _
    · exact ⟨h0.trans hf, ub, fun s hs => by have := hb s hs; omega, by omega⟩
/-! its three ifs -/
def tI1 : TS := fun D σ H => ∃ (pk : Addr) (ns : List Int) (x dr : Nat) (G : Hp) (l : List (Addr × HO)), σ[10]? = some (some (.ref pk)) ∧ σ[14]? = some (some (.int x)) ∧ σ[15]? = some (some (.int dr)) ∧ Has G H ((pk, .lst (ns.map V.int)) :: l) ∧ ns.length ≤ 1000 ∧
  ∀ H', Has G H' ((pk, .lst ((nsT dr x ns).map V.int)) :: l) → D.nx σ H'
def tI2 : TS := fun D σ H => ∃ (td : Addr) (ys : List V) (b : Bar) (x dr : Nat) (G : Hp) (l : List (Addr × HO)), σ[11]? = some (some (.ref td)) ∧ σ[14]? = some (some (.int x)) ∧ σ[15]? = some (some (.int dr)) ∧ Has G H ((td, .lst ys) :: l) ∧ Ats G ys (b.map dSgn) ∧ b.length ≤ 1000 ∧
  ∀ G' H' ys', Ex G G' → Has G' H' ((td, .lst ys') :: l) → Ats G' ys' ((b1T dr x b).map dSgn) → D.nx σ H'
def tI3 : TS := fun D σ H => ∃ (td : Addr) (ys : List V) (b : Bar) (x dr man : Nat) (fine : Bool) (G : Hp) (l : List (Addr × HO)), σ[11]? = some (some (.ref td)) ∧ σ[12]? = some (some (.int man)) ∧ σ[13]? = some (some (.bl fine)) ∧ σ[14]? = some (some (.int x)) ∧ σ[15]? = some (some (.int dr)) ∧ man < 3 ∧
  Has G H ((td, .lst ys) :: l) ∧ Ats G ys (b.map dSgn) ∧ b.length ≤ 1000 ∧
  ∀ G' H' ys', Ex G G' → Has G' H' ((td, .lst ys') :: l) → Ats G' ys' ((b2T dr man x b).map dSgn) → D.nx (if c3T dr man = true then σ.set 13 (some (.bl false)) else σ) H'
end TW
set_option Elab.async false
set_option linter.all false
set_option maxRecDepth 100000
set_option maxHeartbeats 4000000
namespace TW
open PySem PySem.Spec PyProof.Rows L2
/-! NoLot -/
structure TN (K : PySem.W.Frag) (mg : Str → Option Value) (x : Str) (N : Addr) : Prop where
  g : mg x = some (.ref N)
  ex : PySem.W.excIn K N [.type "ValueError", .type "Exception", .type "BaseException", .type "object"] "ValueError.__new__" = true
  k : PySem.W.keepIn K (.ref N) = true
  b : PySem.W.subIn K (.ref N) (.type "BaseException") = some true
  t : PySem.W.typeIn K (.ref N) = some (.type "type")
  e : PySem.W.exmOne K (.ref N) (.ref N) = some true
def closL (ls : Lots) (n : Nat) : Bar := (allS n).filter fun s => ls.all fun p => mt p.2 s
section
variable {P : Program} {w : World} {K : PySem.W.Frag} {mg : Str → Option Value} {base : Heap} {C N : Addr}
theorem sc_closure : FnScope ["table", "part", "lots", "literals", "lot", "literal"] ["table", "part"] (defScope s_closure) := ⟨rfl, rfl, rfl, by decide +kernel, rfl, by decide +kernel, by decide +kernel⟩
abbrev NC : List Str := ["table", "part", "lots", "literals", "lot", "literal"]
def scLit : Scope := { kind := .function, names := [(".0", .local), ("literal", .cell), ("all", .globalImplicit), ("lots", .cell)], isGenerator := false, isCoroutine := false }
def spClosure (C N : Addr) : Sp := fun vs H Q E => ∃ (G : Hp) (l : List (Addr × HO)) (a : Addr) (n : Nat) (L : Lots) (v : V) (b : Bar), vs = [.ref a, v] ∧ Has G H l ∧ TabAt C G a n L ∧ LotsOk L ∧ L.length ≤ 1000 ∧ n ≤ 1000 ∧ At G v (dBar b) ∧ b.length ≤ 1000 ∧ insB b (some (n : Int)) = true ∧ ascB b = true ∧
  (fitL L b = [] → ∀ H', Has G H' l → E (.ref N) none H') ∧ (fitL L b ≠ [] → ∀ (G' H' : Hp) (x : V), Ex G G' → Has G' H' l → At G' x (dBar (closL (fitL L b) n)) → Q x H')
theorem fn_closure {f gp gf : Addr} {fd gfd : FuncData} (F : Fun K "closure" "closure" s_closure f fd) (z : Z mg) (T : TC K mg C) (TE : TN K mg "NoLot" N) (PT : TG P w K mg base C gp gf gfd "things" (spThings C)) (O_check_table : Ok P w K mg base 1 "check_table" ["table"] (spCheckTable C)) (O_check_part : Ok P w K mg base 5 "check_part" ["part", "things"] spCheckPart)
    (O_fitting : Ok P w K mg base 7 "fitting_lots" ["table", "part"] (spFitting C)) (O_all : Ok P w K mg base 1 "all_literals" ["things"] spAllS) (O_meets : Ok P w K mg base 1 "meets" ["lot", "literal"] (spMeets K)) : FnOk P w K mg base (L2.CX P w) 8 f fd ["table", "part"] (spClosure C N) := by
  refine F.okX sc_closure (fun vs H Q E h => ?_) (fun cdv A outer s H vs Q E hr h => ?_)
  · obtain ⟨G, l, a, n, L, v, b, rfl, _⟩ := h
    rfl
  · obtain ⟨G, l, a, n, L, v, b, rfl, S, tab, hL, lL, hn, hv, hl, hin, hasc, qe, q⟩ := h
    obtain ⟨dx, tl, h1, h2, h3⟩ := id tab
    refine ⟨_, (pss_cons (ps_expr (pe_o O_check_table (hr.mono (by decide)) (pa_cons (pv 0) pa_nil)))
      (pss_cons (ps_expr (pe_o O_check_part (hr.mono (by decide)) (pa_cons (pv 1) (pa_cons (pe_prop (pv 0) T.cl PT.at_ PT.ok (hr.mono (by decide)) PT.b .nil pass0 rfl) pa_nil))))
      (pss_cons (ps_set (i := 2) sc_closure.nd rfl (Or.inr rfl) (pe_o O_fitting hr (pa_cons (pv 0) (pa_cons (pv 1) pa_nil))))
      (pss_cons (ps_if (pt_cmpR op_eq (pe_callB call_len_seq (by rfl) z.len PySem.boot_len (pa_cons (pv 2) pa_nil)) pe_int (nomark _)) (pss_one (ps_raise rfl (takes_of rfl rfl rfl rfl) (pmk_own PySem.F.excBase_ValueError TE.ex TE.g TE.k (raises_own TE.b TE.t) (by exact rfl)))) pss_nil)
      (pss_cons (ps_set (i := 3) sc_closure.nd rfl (Or.inl rfl) (pe_o O_all (hr.mono (by decide)) (pa_cons (pe_prop (pv 0) T.cl PT.at_ PT.ok (hr.mono (by decide)) PT.b .nil pass0 rfl) pa_nil)))
      (pss_one (ps_ret (pe_callTy call_tuple_of (by rfl) z.tuple (by decide +kernel) (pa_cons (pe_lc (own := [("literal", 5)]) (g := gName 5) rfl sc_closure.nd (pi_list (pv 3)) (blkOk_by (N := NC) (own := [("literal", 5)]) (sc := defScope s_closure) (by decide +kernel)) (fun _ _ _ _ _ => pg_name (i := 5) sc_closure.nd rfl (Or.inr rfl))
        (fun _ _ _ _ _ => pts_one (pt_val (pe_callB (cr_allK (K := K) rfl) (by rfl) z.all (by decide +kernel) (pa_cons (pe_lc (own := [("lot", 4)]) (g := gName 4) rfl sc_closure.nd (pi_listK (K := K) (pv 2)) (blkOk_by (N := NC) (own := [("lot", 4)]) (sc := scLit) (by decide +kernel)) (fun _ _ _ _ _ => pg_name (i := 4) sc_closure.nd rfl (Or.inl rfl)) (fun _ _ _ _ _ => pts_nil) (fun _ _ _ _ _ => (pe_o O_meets (hr.mono (by decide)) (pa_cons (pv 4) (pa_cons (pv 5) pa_nil))))) pa_nil))))
        (fun _ _ _ _ _ => (pv 5))) pa_nil))))))))), ?_⟩
    refine ⟨_, rfl, a, n, L, rfl, tab.ex S.ex, ?_⟩
    refine ⟨_, rfl, _, rfl, a, dx, _, rfl, S.ex _ _ h1, a, n, L, rfl, tab.ex S.ex, v, b, some (n : Int), rfl, hv.ex S.ex, hl, hin, hasc, fun H1 e1 => ?_⟩
    have S1 := S.go e1
    refine ⟨_, rfl, _, rfl, a, n, L, v, b, rfl, tab.ex S1.ex, hL, lL, hv.ex S1.ex, hl, hasc, fun t H2 nt e2 ht => ?_⟩
    have S2 := S1.newE e2 nt ht
    have lf : (refs (fitL L b)).length = (fitL L b).length := refs_len _
    refine ⟨_, rfl, t, _, rfl, .inl (Evl.sq_of ht), rfl, _, rfl, ?_⟩
    refine ite2 (fun hc => ?_) (fun hc => ?_)
    · have h0 : fitL L b = [] := by
        have := V.int.inj (of_decide_eq_true hc)
        exact List.length_eq_zero_iff.mp (by omega)
      exact qe h0 H2 S2.tail
    · have h0 : fitL L b ≠ [] := fun e => hc (decide_eq_true (by rw [e]; rfl))
      have q := q h0
      have hF : ∀ p ∈ fitL L b, G p.1 = some (.tup (p.2.map V.int)) := fun p hp => h3 p (List.mem_filter.mp hp).1
      have lF : (fitL L b).length ≤ 1000 := Nat.le_trans (List.length_filter_le _ _) lL
      generalize fitL L b = F at S2 ht lf hF lF q
      have S3 := S2.sink
      have e3 := S2.exS
      have ht3 : (upd G t (.lst (refs F))) t = some (.lst (refs F)) := upd_same
      generalize upd G t (.lst (refs F)) = G3 at S3 e3 ht3
      refine ⟨_, rfl, a, dx, _, rfl, S3.ex _ _ (e3 _ _ h1), a, n, L, rfl, tab.ex (e3.trans S3.ex), G3, l, n, rfl, S3, by omega, fun G4 t4 x4 H4 e4 S4' a4' => ?_⟩
      have S4 := S4'.sink
      have e5 := e4.trans S4'.exS
      have a4 := a4'.ex S4'.exS
      have ht4 : (upd G4 t4 (.lst x4)) t4 = some (.lst x4) := upd_same
      generalize upd G4 t4 (.lst x4) = G5 at S4 e5 a4 ht4
      have ht5 := e5 _ _ ht3
      have al : (allS n).length = 2 * n := allS_len n
      have lx : x4.length = 2 * n := by rw [a4.1, List.length_map, al]
      refine ⟨_, rfl, t4, rfl, ⟨_, Evl.sq_of (S4.ex _ _ ht4)⟩, fun D1 nD1 => ?_⟩
      refine lc_list (K := K) (a := t4) (xs := x4) (fun i H' => ∃ ys : List V, Has G5 H' ((D1, .lst ys) :: l) ∧ Ats G5 ys ((((allS n).take i).filter fun s => F.all fun p => mt p.2 s).map dSgn)) ⟨[], S4.new nD1, .nil⟩ (fun i H' _ p => by
        obtain ⟨ys, S, _⟩ := p
        exact Evl.sq_of (S.ex _ _ ht4)) ?_ ?_
      · rintro i x H5 hi ⟨ys, S5, hy⟩
        obtain ⟨s, hs, hS⟩ := ats_get a4 hi
        have ly : ys.length ≤ 2 * n := by
          rw [hy.1, List.length_map, ← al]
          exact filt_len _ _ _
        refine ⟨rfl, _, rfl, t, rfl, ⟨_, Evl.sq_of (S5.ex _ _ ht5)⟩, fun D3 nD3 => ?_⟩
        refine lc_list (K := K) (a := t) (xs := refs F) (fun j H' => Has G5 H' ((D3, .lst ((((F.take j).map fun p => mt p.2 s)).map V.bl)) :: (D1, .lst ys) :: l)) (S5.new nD3) (fun i H' _ S => Evl.sq_of (S.ex _ _ ht5)) ?_ ?_
        · rintro j y H6 hj S6
          obtain ⟨p, hp, rfl⟩ := refs_get hj
          have hj2 := (List.getElem?_eq_some_iff.mp hp).1
          refine ⟨rfl, _, rfl, _, rfl, p.1, p.2, x, s, rfl, Evl.st_of (S6.ex _ _ (e5 _ _ (e3 _ _ (hF p (List.mem_of_getElem? hp))))), hS.ex S6.ex, _, S6.get 0 rfl, szl (by rw [List.length_map, List.length_map, List.length_take]; omega), ?_⟩
          rw [take_any (fun p : Addr × List Int => mt p.2 s) hp, List.map_append]
          exact S6.set 0 rfl
        · rintro H6 S6
          rw [refs_len, List.take_length] at S6
          refine ⟨D3, _, rfl, Evl.sq_of (S6.get 0 rfl), _, rfl, ?_⟩
          rw [all_id]
          have S7 := S6.tail
          cases hq : F.all fun p => mt p.2 s with
          | true =>
            refine ⟨_, rfl, _, S7.get 0 rfl, szl (by omega), ys ++ [x], S7.set 0 rfl, ?_⟩
            rw [filt_yes (f := fun s => F.all fun p : Addr × List Int => mt p.2 s) hs hq, List.map_append]
            exact hy.snoc hS
          | false =>
            refine ⟨ys, S7, ?_⟩
            rw [filt_no (f := fun s => F.all fun p : Addr × List Int => mt p.2 s) hs hq]
            exact hy
      · rintro H5 ⟨ys, S5, hy⟩
        rw [List.take_of_length_le (by omega)] at hy
        refine ⟨D1, ys, rfl, .inl ⟨Evl.sq_of (S5.get 0 rfl), fun u nu => ?_⟩⟩
        have S6 := S5.tail.new (o := .tup ys) nu
        exact q _ _ _ ((e3.trans e5).trans S6.exS) S6.sink (At.mkT upd_same (hy.ex S6.exS))
end
end TW
set_option Elab.async false
set_option linter.all false
set_option maxRecDepth 100000
set_option maxHeartbeats 4000000
namespace TW
open PySem PySem.Spec PyProof.Rows L2
def dOpt : Option Bar → PyData
  | none => .none
  | some b => dBar b
def closM (F : List Int) (n : Nat) : Bar := (allS n).filter fun s => F.all fun m => met m s
def clo (ms : List Int) (n : Nat) (b : Bar) : Option Bar := if (ms.filter fun m => b.all (met m)) = [] then none else some (closM (ms.filter fun m => b.all (met m)) n)
def cloL (L : Lots) (n : Nat) (b : Bar) : Option Bar := if fitL L b = [] then none else some (closL (fitL L b) n)
section
variable {P : Program} {w : World} {K : PySem.W.Frag} {mg : Str → Option Value} {base : Heap} {C N : Addr}
/-! _law_closed_part -/
abbrev NP : List Str := ["masks", "wide", "told", "row", "sign", "mask"]
def scSgn : Scope := { kind := .function, names := [(".0", .local), ("sign", .cell), ("all", .globalImplicit), ("row", .cell)], isGenerator := false, isCoroutine := false }
def spClosedPart : Sp := fun vs H Q _ => ∃ (G : Hp) (l : List (Addr × HO)) (a : Addr) (n : Nat) (ms : List Int) (v : V) (b : Bar), vs = [.ref a, .int n, v] ∧ Has G H l ∧ G a = some (.lst (ms.map V.int)) ∧ ms.length ≤ 1000 ∧ n ≤ 1000 ∧ At G v (dBar b) ∧ b.length ≤ 1000 ∧
  ∀ (G' H' : Hp) (x : V), Ex G G' → Has G' H' l → At G' x (dOpt (clo ms n b)) → Q x H'
def spTold (C : Addr) : Sp := fun vs H Q _ => ∃ (G : Hp) (l : List (Addr × HO)) (a : Addr) (n : Nat) (L : Lots) (v : V) (b : Bar), vs = [.ref a, v] ∧ Has G H l ∧ TabAt C G a n L ∧ LotsOk L ∧ L.length ≤ 1000 ∧ n ≤ 1000 ∧ At G v (dBar b) ∧ b.length ≤ 1000 ∧ insB b (some (n : Int)) = true ∧ ascB b = true ∧
  ∀ (G' H' : Hp) (x : V), Ex G G' → Has G' H' l → At G' x (dOpt (cloL L n b)) → Q x H'
end
end TW
set_option Elab.async false
set_option linter.all false
set_option maxRecDepth 100000
set_option maxHeartbeats 4000000
namespace TW
open PySem PySem.Spec PyProof.Rows L2
section
variable {X : Cx} {K : PySem.W.Frag}
theorem op_catAK (h : X.K = K := by rfl) : OpR X (binaryOp .Add) (rCatA K) := by
  subst h
  exact op_catA
end
theorem Has.down {G G' H : Hp} {l : List (Addr × HO)} (e : Ex G G') (h : Has G' H l) : Has G H l := ⟨e.trans h.ex, fun q hq => ⟨Evl.fresh_back e (h.own q hq).1, (h.own q hq).2⟩, h.nd⟩
theorem At.lot {H : Hp} {v : V} {ns : List Int} (h : At H v (tupD ns)) : ∃ a, v = .ref a ∧ H a = some (.tup (ns.map V.int)) := by
  obtain ⟨a, xs, rfl, ha, hx⟩ := At.isT h
  have e : xs = ns.map V.int := by
    clear ha h
    induction ns generalizing xs with
    | nil => exact List.length_eq_zero_iff.mp hx.1
    | cons n ns ih =>
      cases xs with
      | nil => cases hx.1
      | cons x xs =>
        obtain rfl := hx.head.isI
        rw [ih xs hx.rest]
        rfl
  rw [e] at ha
  exact ⟨a, rfl, ha⟩
theorem lots_of_ats {G : Hp} : ∀ {xs : List V} {ls : List (List Int)}, Ats G xs (ls.map tupD) → ∃ ks : Lots, xs = refs ks ∧ InLots G ks ∧ ks.map (·.2) = ls
  | [], [], _ => ⟨[], rfl, fun p hp => absurd hp List.not_mem_nil, rfl⟩
  | [], _ :: _, h => by cases h.1
  | _ :: _, [], h => by cases h.1
  | x :: xs, l :: ls, h => by
    obtain ⟨a, rfl, ha⟩ := At.lot h.head
    obtain ⟨ks, e, hk, el⟩ := lots_of_ats (xs := xs) (ls := ls) h.rest
    refine ⟨(a, l) :: ks, by rw [e]; rfl, fun p hp => ?_, by rw [List.map_cons, el]⟩
    rcases List.mem_cons.mp hp with rfl | hp
    · exact ha
    · exact hk p hp
/-! all lots, as the program makes them -/
def lotsL : Nat → List (List Int)
  | 0 => [[]]
  | n + 1 => lotsL n ++ (lotsL n).map (· ++ [(n : Int)])
theorem lotsL_len (n : Nat) : (lotsL n).length = 2 ^ n := by
  induction n with
  | zero => rfl
  | succ n ih =>
    show (lotsL n ++ (lotsL n).map _).length = _
    rw [List.length_append, List.length_map, ih, Nat.pow_succ]
    omega
theorem bit_low {m : Nat} {n : Nat} (h : m < 2 ^ n) : bitB (m : Int) n = false := by
  unfold bitB
  have e : ((m : Int) / 2 ^ n) = 0 := Int.ediv_eq_zero_of_lt (by omega) (by exact_mod_cast h)
  rw [e]
  decide
theorem bit_high {m : Nat} {n : Nat} (h : m < 2 ^ n) : bitB ((2 ^ n + m : Nat) : Int) n = true := by
  unfold bitB
  have p : (0 : Int) < 2 ^ n := Int.pow_pos (by decide)
  have e : (((2 ^ n + m : Nat) : Int) / 2 ^ n) = 1 := by
    have e1 : ((2 ^ n + m : Nat) : Int) = (m : Int) + 2 ^ n := by push_cast; omega
    rw [e1, Int.add_ediv_of_dvd_right (Int.dvd_refl _), Int.ediv_self (by omega), Int.ediv_eq_zero_of_lt (by omega) (by exact_mod_cast h)]
    rfl
  rw [e]
  decide
theorem bit_same {m : Nat} {n k : Nat} (h : k < n) : bitB ((2 ^ n + m : Nat) : Int) k = bitB (m : Int) k := by
  unfold bitB
  have p : (0 : Int) < 2 ^ k := Int.pow_pos (by decide)
  have e1 : ((2 ^ n + m : Nat) : Int) = (m : Int) + 2 ^ (n - k - 1) * 2 * 2 ^ k := by
    have : (2 : Int) ^ n = 2 ^ (n - k - 1) * 2 * 2 ^ k := by
      rw [← Int.pow_succ, ← Int.pow_add]
      congr 1
      omega
    push_cast
    omega
  rw [e1, Int.add_mul_ediv_right _ _ (by omega), Int.add_mul_emod_self_right]
theorem lot_same {m n w : Nat} (h : w ≤ n) : lotOf ((2 ^ n + m : Nat) : Int) w = lotOf (m : Int) w := by
  induction w with
  | zero => rfl
  | succ w ih => rw [lot_up, lot_up, ih (by omega), bit_same (by omega)]
theorem lotsL_eq (n : Nat) : lotsL n = (List.range (2 ^ n)).map fun m : Nat => lotOf (m : Int) n := by
  induction n with
  | zero => rfl
  | succ n ih =>
    show lotsL n ++ (lotsL n).map _ = _
    rw [show 2 ^ (n + 1) = 2 ^ n + 2 ^ n by rw [Nat.pow_succ]; omega, List.range_add, List.map_append, ih, List.map_map, List.map_map]
    congr 1
    · refine List.map_congr_left fun m hm => ?_
      rw [lot_up, bit_low (List.mem_range.mp hm), if_neg (by decide), List.append_nil]
    · refine List.map_congr_left fun m hm => ?_
      show lotOf (m : Int) n ++ [(n : Int)] = lotOf ((2 ^ n + m : Nat) : Int) (n + 1)
      rw [lot_up, bit_high (List.mem_range.mp hm), if_pos rfl, lot_same (Nat.le_refl n)]
def keptM (n : Nat) (bs : List Bar) : List Int := (rangeI (2 ^ n)).filter fun m => keptB m bs
def ruleP (n : Nat) (bs : List Bar) : Prop := ∀ b ∈ bs, barOk n b
theorem lots_kept {n : Nat} {bs : List Bar} (h : ruleP n bs) : (lotsL n).filter (fun ns => bs.all fun b => b.any (mt ns)) = (keptM n bs).map fun m => lotOf m n := by
  rw [lotsL_eq]
  unfold keptM rangeI
  rw [List.filter_map, List.filter_map, List.map_map]
  have e : (List.range (2 ^ n)).filter ((fun ns => bs.all fun b => b.any (mt ns)) ∘ fun m : Nat => lotOf (m : Int) n) = (List.range (2 ^ n)).filter ((fun m => keptB m bs) ∘ fun k : Nat => (k : Int)) := by
    refine filt_congr fun m hm => ?_
    show (bs.all fun b => b.any (mt (lotOf (m : Int) n))) = keptB (m : Int) bs
    unfold keptB
    rw [Bool.eq_iff_iff, List.all_eq_true, List.all_eq_true]
    constructor
    · intro q b hb
      rw [← any_mt (h b hb).2.2.1]
      exact q b hb
    · intro q b hb
      rw [any_mt (h b hb).2.2.1]
      exact q b hb
  rw [e]
  rfl
section
variable {P : Program} {w : World} {K : PySem.W.Frag} {mg : Str → Option Value} {base : Heap} {C N : Addr}
/-! keeps_all -/
theorem sc_keeps_all : FnScope ["lot", "rules", "rule"] ["lot", "rules"] (defScope s_keeps_all) := ⟨rfl, rfl, rfl, by decide +kernel, rfl, by decide +kernel, by decide +kernel⟩
def spKeepsAll (K : PySem.W.Frag) : Sp := fun vs H Q _ => ∃ (a : Addr) (ns : List Int) (v : V) (bs : List Bar), vs = [.ref a, v] ∧ SqT K H a (ns.map V.int) ∧ At H v (dBars bs) ∧ (∀ b ∈ bs, b.length ≤ 100) ∧ ∀ H', Ex H H' → Q (.bl (bs.all fun b => b.any (mt ns))) H'
theorem ok_keeps_all (D : Dfn K mg "keeps_all" s_keeps_all ["lot", "rules"]) (O_keeps : Ok P w K mg base 2 "keeps" ["lot", "rule"] (spKeeps K)) : Ok P w K mg base 3 "keeps_all" ["lot", "rules"] (spKeepsAll K) := D.ok fun f fd F => by
  refine F.ok sc_keeps_all (fun vs H Q E h => ?_) (fun cdv A outer s H vs Q E hr h => ?_)
  · obtain ⟨a, ns, v, bs, rfl, _⟩ := h
    rfl
  · obtain ⟨a, ns, v, bs, rfl, ha, hv, hl, q⟩ := h
    obtain ⟨t, xs, rfl, ht, hx⟩ := hv.bars
    refine ⟨_, (pss_cons (ps_for PassesOwn.never rfl (pi_list (pv 1)) (pg_name (i := 2) sc_keeps_all.nd rfl (Or.inl rfl))
      (pss_one (ps_if (pt_not (pt_val (pe_o O_keeps hr (pa_cons (pv 0) (pa_cons (pv 2) pa_nil))))) (pss_one (ps_ret pe_bl)) pss_nil)))
      (pss_one (ps_ret pe_bl))), ?_⟩
    refine ⟨_, rfl, t, rfl, ⟨_, Evl.sq_of ht⟩, for_list (K := K) (a := t) (xs := xs) (fun i σ H' => Ex H H' ∧ ((bs.take i).all fun b => b.any (mt ns)) = true ∧ ∃ v2, σ = [some (.ref a), some (.ref t), v2]) ⟨Evl.Ex.refl H, rfl, none, rfl⟩ (fun i σ H' _ p => Evl.ex_l p.1 (Evl.sq_of ht)) ?_ ?_⟩
    · rintro i x σ H1 hi ⟨e1, hk, v2, rfl⟩
      obtain ⟨b, hb, hA⟩ := ats_get hx hi
      refine ⟨_, rfl, _, rfl, a, ns, x, b, rfl, Evl.ex_t e1 ha, hA.ex e1, hl b (List.mem_of_getElem? hb), fun H2 e2 => ⟨_, rfl, ?_⟩⟩
      have kn : ((bs.take (i + 1)).all fun b => b.any (mt ns)) = (((bs.take i).all fun b => b.any (mt ns)) && b.any (mt ns)) := by
        rw [take_snoc hb, List.all_append]
        show (_ && (b.any (mt ns) && true)) = _
        rw [Bool.and_true]
      cases hq : b.any (mt ns) with
      | true => exact ⟨e1.trans e2, by rw [kn, hk, hq]; rfl, _, rfl⟩
      | false =>
        have kf : (bs.all fun b => b.any (mt ns)) = false := by
          rw [List.all_eq_false]
          exact ⟨b, List.mem_of_getElem? hb, by rw [hq]; decide⟩
        rw [kf] at q
        exact q H2 (e1.trans e2)
    · rintro σ H1 ⟨e1, hk, _⟩
      rw [List.take_of_length_le (by have := hx.1; rw [List.length_map] at this; omega)] at hk
      rw [hk] at q
      exact q H1 e1
/-! all_lots -/
abbrev NAL : List Str := ["things", "lots", "thing", "lot"]
theorem sc_all_lots : FnScope NAL ["things"] (defScope s_all_lots) := ⟨rfl, rfl, rfl, by decide +kernel, rfl, by decide +kernel, by decide +kernel⟩
def spAllLots : Sp := fun vs H Q _ => ∃ (G : Hp) (l : List (Addr × HO)) (n : Nat), vs = [.int n] ∧ Has G H l ∧ n ≤ 6 ∧ ∀ (G' H' : Hp) (t : Addr) (xs : List V), Ex G G' → Has G' H' ((t, .lst xs) :: l) → Ats G' xs ((lotsL n).map tupD) → Q (.ref t) H'
theorem lotsL_small {i n : Nat} (h : i ≤ n) (hn : n ≤ 6) : 2 ^ i ≤ 64 := Nat.le_trans (Nat.pow_le_pow_right (by decide) h) (Nat.le_trans (Nat.pow_le_pow_right (by decide) hn) (by decide))
theorem lotsL_bound {n : Nat} : ∀ l ∈ lotsL n, l.length ≤ n := fun l hl => by
  rw [lotsL_eq] at hl
  obtain ⟨m, _, rfl⟩ := List.mem_map.mp hl
  exact lot_len _ _
theorem ok_all_lots (D : Dfn K mg "all_lots" s_all_lots ["things"]) (z : Z mg) : Ok P w K mg base 1 "all_lots" ["things"] spAllLots := D.ok fun f fd F => by
  refine F.ok sc_all_lots (fun vs H Q E h => ?_) (fun cdv A outer s H vs Q E hr h => ?_)
  · obtain ⟨G, l, n, rfl, _⟩ := h
    rfl
  · obtain ⟨G, l, n, rfl, S, hn, q⟩ := h
    refine ⟨_, (pss_cons (ps_set (i := 1) sc_all_lots.nd rfl (Or.inl rfl) (pe_lst (pa_cons (pe_tup pa_nil) pa_nil)))
      (pss_cons (ps_for PassesOwn.never rfl (pi_range1 (by rfl) z.range (pa_cons (pv 0) pa_nil)) (pg_name (i := 2) sc_all_lots.nd rfl (Or.inr rfl))
      (pss_one (ps_set (i := 1) sc_all_lots.nd rfl (Or.inl rfl) (pe_op op_cat (pv 1) (pe_lc (own := [("lot", 3)]) (g := gName 3) rfl sc_all_lots.nd (pi_list (pv 1)) (blkOk_by (N := NAL) (own := [("lot", 3)]) (sc := defScope s_all_lots) (by decide +kernel)) (fun _ _ _ _ _ => pg_name (i := 3) sc_all_lots.nd rfl (Or.inl rfl)) (fun _ _ _ _ _ => pts_nil) (fun _ _ _ _ _ => (pe_op (op_catAK (K := K)) (pv 3) (pe_tup (pa_cons (pv 2) pa_nil)))))))))
      (pss_one (ps_ret (pv 1))))), ?_⟩
    refine ⟨sz (by show 0 ≤ 100000; decide), fun u nu => ⟨sz (by show 1 ≤ 100000; decide), fun t0 nt0 => ?_⟩⟩
    have S1 := (S.new (o := .tup []) nu)
    have e1 := S1.exS
    have a1 : Ats (upd G u (.tup [])) [.ref u] ((lotsL 0).map tupD) := .cons (At.mkT upd_same .nil) .nil
    have S2 := S1.sink.new (o := .lst [.ref u]) nt0
    generalize upd (upd H u (.tup [])) t0 (.lst [.ref u]) = H2 at S2
    generalize upd G u (.tup []) = G2 at S2 e1 a1
    refine ⟨_, rfl, n, rfl, by omega, by omega, ?_⟩
    rw [show ((n : Nat) : Int).toNat = n by omega]
    refine for_range (lo := 0) (n := n) (fun i σ H' => ∃ (v2 v3 : Option V) (t : Addr) (G' : Hp) (xs : List V), σ = [some (.int n), some (.ref t), v2, v3] ∧ Ex G G' ∧ Has G' H' ((t, .lst xs) :: l) ∧ Ats G' xs ((lotsL i).map tupD)) ⟨none, none, t0, G2, [.ref u], rfl, e1, S2, a1⟩ ?_ ?_
    · rintro i σ H3 hi ⟨v2, v3, t, G3, xs, rfl, e3, S3, a3⟩
      have hb := lotsL_small (Nat.le_of_lt hi) hn
      have lx : xs.length = 2 ^ i := by rw [a3.1, List.length_map, lotsL_len]
      rw [Int.zero_add]
      refine ⟨_, rfl, _, rfl, t, rfl, ⟨_, Evl.sq_of (S3.get 0 rfl)⟩, fun D nD => ?_⟩
      refine lc_list (K := K) (a := t) (xs := xs) (fun j H' => ∃ (G' : Hp) (ys : List V), Ex G3 G' ∧ Has G' H' ((D, .lst ys) :: (t, .lst xs) :: l) ∧ Ats G' ys ((((lotsL i).take j).map (· ++ [(i : Int)])).map tupD)) ⟨G3, [], Evl.Ex.refl _, S3.new nD, .nil⟩ (fun j H' _ p => by
        obtain ⟨G', ys, _, S', _⟩ := p
        exact Evl.sq_of (S'.get 1 rfl)) ?_ ?_
      · rintro j x H4 hj ⟨G4, ys, e4, S4, a4⟩
        obtain ⟨ns, hns, hA⟩ := ats_get a3 hj
        obtain ⟨a, rfl, ha⟩ := At.lot hA
        have ly : ys.length ≤ 64 := by
          rw [a4.1, List.length_map, List.length_map, List.length_take, lotsL_len]
          omega
        have ln : ns.length ≤ i := lotsL_bound ns (List.mem_of_getElem? hns)
        refine ⟨rfl, _, rfl, _, rfl, sz (by show 1 ≤ 100000; decide), fun p np => ?_⟩
        have S5 := S4.new (o := .tup [.int i]) np
        have fin : ∀ (r : Addr) (H6 G6 : Hp), Ex G4 G6 → Has G6 H6 ((D, .lst ys) :: (t, .lst xs) :: l) → G6 r = some (.tup ((ns ++ [(i : Int)]).map V.int)) → ∃ acc, H6 D = some (.lst acc) ∧ acc.length < sizeLine ∧ ∃ (G' : Hp) (ys' : List V), Ex G3 G' ∧ Has G' (upd H6 D (.lst (acc ++ [.ref r]))) ((D, .lst ys') :: (t, .lst xs) :: l) ∧ Ats G' ys' ((((lotsL i).take (j + 1)).map (· ++ [(i : Int)])).map tupD) := fun r H6 G6 e6 S6 hr6 => by
          refine ⟨ys, S6.get 0 rfl, szl (by omega), G6, ys ++ [.ref r], e4.trans e6, S6.set 0 rfl, ?_⟩
          rw [take_snoc hns, List.map_append, List.map_append]
          exact (a4.ex e6).snoc (at_lot hr6)
        refine ⟨a, p, ns.map V.int, [.int i], rfl, rfl, Evl.st_of (S5.ex _ _ (e4 _ _ ha)), Evl.st_of (S5.get 0 rfl), sz (by rw [List.length_map]; show ns.length + 1 ≤ 100000; omega), fun h0 => ?_, (fun _ h1 => by cases h1), fun h0 _ r nr => ?_⟩
        · have n0 : ns = [] := by
            cases ns with
            | nil => rfl
            | cons _ _ => cases h0
          refine fin p _ _ S5.exS S5.sink ?_
          rw [upd_same, n0]
          rfl
        · have S6 := S5.tail.new (o := .tup (ns.map V.int ++ [.int i])) nr
          refine fin r _ _ S6.exS S6.sink ?_
          rw [upd_same, List.map_append]
          rfl
      · rintro H4 ⟨G4, ys, e4, S4, a4⟩
        rw [List.take_of_length_le (by rw [lotsL_len]; omega)] at a4
        have ly : ys.length = 2 ^ i := by rw [a4.1, List.length_map, List.length_map, lotsL_len]
        refine ⟨t, D, xs, ys, rfl, rfl, S4.get 1 rfl, S4.get 0 rfl, sz (by omega), fun p np => ?_⟩
        have S5 := S4.new (o := .lst (xs ++ ys)) np
        refine ⟨_, _, p, G4, xs ++ ys, rfl, e3.trans e4, S5.drop2.drop2, ?_⟩
        show Ats G4 (xs ++ ys) ((lotsL i ++ (lotsL i).map (· ++ [(i : Int)])).map tupD)
        rw [List.map_append]
        exact (a3.ex e4).append a4
    · rintro σ H3 ⟨v2, v3, t, G3, xs, rfl, e3, S3, a3⟩
      exact ⟨_, rfl, q G3 H3 t xs e3 S3 a3⟩
/-! is_rule, check_rules -/
theorem sc_is_rule : FnScope ["value", "things"] ["value", "things"] (defScope s_is_rule) := ⟨rfl, rfl, rfl, by decide +kernel, rfl, by decide +kernel, by decide +kernel⟩
def spIsRule : Sp := fun vs H Q _ => ∃ (v : V) (b : Bar) (n : Nat), vs = [v, .int n] ∧ At H v (dBar b) ∧ barOk n b ∧ ∀ H', Ex H H' → Q (.bl true) H'
theorem ascB_of {b : Bar} (h : b.Pairwise fun s t => s.1 < t.1) : ascB b = true := by
  unfold ascB
  refine up_asc ?_
  unfold Up
  rw [List.pairwise_map]
  exact h.imp fun q => by omega
theorem ins_of {n : Nat} {b : Bar} (h : ∀ s ∈ b, s.1 < n) : insB b (some (n : Int)) = true := by
  unfold insB
  rw [List.all_eq_true]
  intro s hs
  show decide ((s.1 : Int) < (n : Int)) = true
  exact decide_eq_true (by have := h s hs; omega)
theorem ok_is_rule (D : Dfn K mg "is_rule" s_is_rule ["value", "things"]) (z : Z mg) (O_is_part : Ok P w K mg base 4 "is_part" ["value", "things"] spIsPart) : Ok P w K mg base 5 "is_rule" ["value", "things"] spIsRule := D.ok fun f fd F => by
  refine F.ok sc_is_rule (fun vs H Q E h => ?_) (fun cdv A outer s H vs Q E hr h => ?_)
  · obtain ⟨v, b, n, rfl, _⟩ := h
    rfl
  · obtain ⟨v, b, n, rfl, hv, hb, q⟩ := h
    obtain ⟨a, xs, rfl, hx, hxs⟩ := hv.bar
    have lx : xs.length = b.length := by rw [hxs.1, List.length_map]
    refine ⟨_, (pss_one (ps_ret (pe_and (pe_o O_is_part hr (pa_cons (pv 0) (pa_cons (pv 1) pa_nil))) (pe_one (pe_cmpR op_in_seq (pe_callB call_len_seq (by rfl) z.len PySem.boot_len (pa_cons (pv 0) pa_nil)) (pe_tup (pa_cons pe_int (pa_cons pe_int pa_nil))) (by rfl)))))), ?_⟩
    refine ⟨_, rfl, _, rfl, .ref a, b, some (n : Int), rfl, hv, by have := hb.2.1; omega, ins_of hb.2.2.1, ascB_of hb.2.2.2, fun H1 e1 => ⟨_, rfl, ?_⟩⟩
    refine ⟨_, rfl, a, xs, rfl, .inr (Evl.st_of (e1 _ _ hx)), sz (by show 2 ≤ 100000; decide), fun p np => ?_⟩
    refine ⟨p, [.int 1, .int 2], rfl, .inr (Evl.st_of upd_same), rfl, rfl, ?_⟩
    have hl : xs.length = 1 ∨ xs.length = 2 := by
      have h1 := hb.2.1
      have h2 : b.length ≠ 0 := fun e => hb.1 (List.length_eq_zero_iff.mp e)
      omega
    have : inV (.int (xs.length : Nat)) [.int 1, .int 2] = true := by
      rcases hl with e | e <;> rw [e] <;> rfl
    rw [this]
    exact q _ (e1.trans (Evl.Ex.new np))
theorem sc_check_rules : FnScope ["rules", "things", "rule"] ["rules", "things"] (defScope s_check_rules) := ⟨rfl, rfl, rfl, by decide +kernel, rfl, by decide +kernel, by decide +kernel⟩
def spCheckRules : Sp := fun vs H Q _ => ∃ (v : V) (bs : List Bar) (n : Nat), vs = [v, .int n] ∧ At H v (dBars bs) ∧ ruleP n bs ∧ bs.length ≤ 1000 ∧ ∀ H', Ex H H' → Q .non H'
theorem ok_check_rules (D : Dfn K mg "check_rules" s_check_rules ["rules", "things"]) (z : Z mg) (O_is_rule : Ok P w K mg base 5 "is_rule" ["value", "things"] spIsRule) : Ok P w K mg base 6 "check_rules" ["rules", "things"] spCheckRules := D.ok fun f fd F => by
  refine F.ok sc_check_rules (fun vs H Q E h => ?_) (fun cdv A outer s H vs Q E hr h => ?_)
  · obtain ⟨v, bs, n, rfl, _⟩ := h
    rfl
  · obtain ⟨v, bs, n, rfl, hv, hb, hl, q⟩ := h
    obtain ⟨a, xs, rfl, ha, hx⟩ := hv.bars
    have lx : xs.length = bs.length := by rw [hx.1, List.length_map]
    refine ⟨_, (pss_one (ps_if (PW.pt (pw_or (pt_cmpR op_isNotTy (pe_callTy call_type1 (by rfl) z.type (by decide +kernel) (pa_cons (pv 0) pa_nil)) (pe_tyn (n := "list") (by rfl) z.list (by decide +kernel)) (nomark _)) (pw_or1 (pt_not (pt_val (pe_callB (cr_all rfl) (by rfl) z.all (by decide +kernel) (pa_cons (pe_lc (own := [("rule", 2)]) (g := gName 2) rfl sc_check_rules.nd (pi_list (pv 0)) (blkOk_by (N := ["rules", "things", "rule"]) (own := [("rule", 2)]) (sc := defScope s_check_rules) (by decide +kernel)) (fun _ _ _ _ _ => pg_name (i := 2) sc_check_rules.nd rfl (Or.inl rfl)) (fun _ _ _ _ _ => pts_nil) (fun _ _ _ _ _ => (pe_o O_is_rule hr (pa_cons (pv 2) (pa_cons (pv 1) pa_nil))))) pa_nil))))))) (pss_one ps_never) pss_nil)), ?_⟩
    refine ⟨_, rfl, _, _, rfl, .lst (Evl.sq_of ha), _, _, rfl, rfl, _, rfl, ?_⟩
    refine ⟨_, rfl, a, rfl, ⟨_, Evl.sq_of ha⟩, fun Dl hD => ?_⟩
    refine lc_list (K := K) (a := a) (xs := xs) (fun i H' => Ex H H' ∧ H' Dl = some (.lst ((List.replicate i true).map V.bl))) ⟨Evl.Ex.new hD, by rw [upd_same]; rfl⟩ (fun i H' _ p => Evl.sq_of (p.1 _ _ ha)) ?_ ?_
    · rintro i x H1 hxi ⟨e1, h1⟩
      obtain ⟨b, hbi, hB⟩ := ats_get hx hxi
      have hi2 := (List.getElem?_eq_some_iff.mp hxi).1
      refine ⟨rfl, _, rfl, _, rfl, x, b, n, rfl, hB.ex e1, hb b (List.mem_of_getElem? hbi), fun H2 e2 => ?_⟩
      refine ⟨_, e2 _ _ h1, szl (by rw [List.length_map, List.length_replicate]; omega), Evl.Ex.mut (e1.trans e2) hD, ?_⟩
      rw [upd_same, List.replicate_succ', List.map_append]
      rfl
    · rintro H1 ⟨e1, h1⟩
      refine ⟨Dl, _, rfl, Evl.sq_of h1, _, rfl, ?_⟩
      rw [show (List.replicate xs.length true).all id = true by simp]
      exact q H1 e1
/-! table_of -/
abbrev NTO : List Str := ["things", "rules", "lots", "lot"]
theorem sc_table_of : FnScope NTO ["things", "rules"] (defScope s_table_of) := ⟨rfl, rfl, rfl, by decide +kernel, rfl, by decide +kernel, by decide +kernel⟩
/-- a list that stands there as long as these things do -/
def Stays (G : Hp) (l : List (Addr × HO)) (a : Addr) (o : HO) : Prop := ∀ H', Has G H' l → H' a = some o
theorem Stays.down {G G' : Hp} {l l' : List (Addr × HO)} {a : Addr} {o : HO} (h : Stays G l a o) (e : Ex G G') (s : l.Sublist l') : Stays G' l' a o := fun H' S => h H' ((S.down e).sub s)
theorem Stays.cell {G : Hp} {l : List (Addr × HO)} {a : Addr} {o : HO} (i : Nat) (h : l[i]? = some (a, o)) : Stays G l a o := fun _ S => S.get i h
theorem Stays.grd {G : Hp} {l : List (Addr × HO)} {a : Addr} {o : HO} (h : G a = some o) : Stays G l a o := fun _ S => S.ex _ _ h
def spTableOf (C N : Addr) : Sp := fun vs H Q E => ∃ (G : Hp) (l : List (Addr × HO)) (n : Nat) (a : Addr) (xs : List V) (bs : List Bar), vs = [.int n, .ref a] ∧ Has G H l ∧ 0 < n ∧ n ≤ 6 ∧ Stays G l a (.lst xs) ∧ Ats G xs (bs.map dBar) ∧ ruleP n bs ∧ bs.length ≤ 1000 ∧
  (keptM n bs = [] → ∀ H', Has G H' l → E (.ref N) none H') ∧ (keptM n bs ≠ [] → ∀ (G' H' : Hp) (t : Addr) (L : Lots), Ex G G' → Has G' H' l → TabAt C G' t n L → TabOf n (keptM n bs) L → Q (.ref t) H')
theorem keptM_len {n : Nat} {bs : List Bar} (hn : n ≤ 6) : (keptM n bs).length ≤ 64 := by
  unfold keptM rangeI
  refine Nat.le_trans (List.length_filter_le _ _) ?_
  rw [List.length_map, List.length_range]
  exact lotsL_small (Nat.le_refl n) hn
theorem fn_table_of {f fi : Addr} {fd fdi : FuncData} (F : Fun K "table_of" "table_of" s_table_of f fd) (z : Z mg) (T : TC K mg C) (TE : TN K mg "NoLot" N) (M : TM P w K mg base C fi fdi) (O_check_things : Ok P w K mg base 2 "check_things" ["things"] spCheckThings)
    (O_check_rules : Ok P w K mg base 6 "check_rules" ["rules", "things"] spCheckRules) (O_all_lots : Ok P w K mg base 1 "all_lots" ["things"] spAllLots) (O_keeps_all : Ok P w K mg base 3 "keeps_all" ["lot", "rules"] (spKeepsAll K)) : FnOk P w K mg base (L2.CX P w) 7 f fd ["things", "rules"] (spTableOf C N) := by
  refine F.okX sc_table_of (fun vs H Q E h => ?_) (fun cdv A outer s H vs Q E hr h => ?_)
  · obtain ⟨G, l, n, a, xs, bs, rfl, _⟩ := h
    rfl
  · obtain ⟨G, l, n, a, xs, bs, rfl, S, hn, hn6, st, hx, hb, lb, qe, q⟩ := h
    refine ⟨_, (pss_cons (ps_expr (pe_o O_check_things (hr.mono (by decide)) (pa_cons (pv 0) pa_nil)))
      (pss_cons (ps_expr (pe_o O_check_rules hr (pa_cons (pv 1) (pa_cons (pv 0) pa_nil))))
      (pss_cons (ps_setLc (i := 2) (own := [("lot", 3)]) (g := gName 3) rfl sc_table_of.nd rfl rfl (sw_true rfl rfl rfl (by decide +kernel)) (pi_list (pe_o O_all_lots (hr.mono (by decide)) (pa_cons (pv 0) pa_nil))) (blkOk_by (N := NTO) (own := [("lot", 3)]) (sc := defScope s_table_of) (by decide +kernel)) (fun _ _ _ _ _ => pg_name (i := 3) sc_table_of.nd rfl (Or.inl rfl)) (fun _ _ _ _ _ => pts_one (pt_val (pe_o O_keeps_all (hr.mono (by decide)) (pa_cons (pv 3) (pa_cons (pv 1) pa_nil))))) (fun _ _ _ _ _ => (pv 3)))
      (pss_cons (ps_if (pt_cmpR op_eq (pe_callB call_len_seq (by rfl) z.len PySem.boot_len (pa_cons (pv 2) pa_nil)) pe_int (nomark _)) (pss_one (ps_raise rfl (takes_of rfl rfl rfl rfl) (pmk_own PySem.F.excBase_ValueError TE.ex TE.g TE.k (raises_own TE.b TE.t) (by exact rfl)))) pss_nil)
      (pss_one (ps_ret (pe_make M.make M.ok (hr.mono (by decide)) (by rfl) T.mg M.b .nil pass0 (pa_cons (pv 0) (pa_cons (pv 2) pa_nil)))))))))
    , ?_⟩
    have atv : ∀ {G' H' : Hp}, Ex G G' → Has G' H' l → At H' (.ref a) (dBars bs) := fun e S' => At.mkL (st _ (S'.down e)) ((hx.ex e).ex S'.ex)
    refine ⟨_, rfl, n, rfl, hn, ?_⟩
    refine ⟨_, rfl, _, rfl, .ref a, bs, n, rfl, atv (Evl.Ex.refl _) S, hb, lb, fun H1 e1 => ?_⟩
    have S1 := S.go e1
    refine ⟨_, rfl, G, l, n, rfl, S1, hn6, fun G2 H2 t zs e2 S2' a2' => ?_⟩
    have S2 := S2'.sink
    have e2' := e2.trans S2'.exS
    have a2 := a2'.ex S2'.exS
    have ht : (upd G2 t (.lst zs)) t = some (.lst zs) := upd_same
    generalize upd G2 t (.lst zs) = G3 at S2 e2' a2 ht
    have lz : zs.length = 2 ^ n := by rw [a2.1, List.length_map, lotsL_len]
    have l64 := lotsL_small (Nat.le_refl n) hn6
    refine ⟨t, rfl, ⟨_, Evl.sq_of (S2.ex _ _ ht)⟩, fun D nD => ?_⟩
    refine lc_list (K := K) (a := t) (xs := zs) (fun j H' => ∃ ys : List V, Has G3 H' ((D, .lst ys) :: l) ∧ Ats G3 ys (((((lotsL n).take j).filter fun ns => bs.all fun b => b.any (mt ns))).map tupD)) ⟨[], S2.new nD, .nil⟩ (fun j H' _ p => by
      obtain ⟨ys, S', _⟩ := p
      exact Evl.sq_of (S'.ex _ _ ht)) ?_ ?_
    · rintro j x H4 hj ⟨ys, S4, a4⟩
      obtain ⟨ns, hns, hA⟩ := ats_get a2 hj
      obtain ⟨b, rfl, hbt⟩ := At.lot hA
      have ly : ys.length ≤ 64 := by
        rw [a4.1, List.length_map]
        have := filt_len (fun ns : List Int => bs.all fun b => b.any (mt ns)) (lotsL n) j
        rw [lotsL_len] at this
        omega
      refine ⟨rfl, _, rfl, _, rfl, b, ns, .ref a, bs, rfl, Evl.st_of (S4.ex _ _ hbt), atv e2' S4.tail, fun b hb' => by have := (hb b hb').2.1; omega, fun H5 e5 => ⟨_, rfl, ?_⟩⟩
      have S5 := S4.go e5
      cases hq : bs.all fun b => b.any (mt ns) with
      | true =>
        refine ⟨_, rfl, _, S5.get 0 rfl, szl (by omega), ys ++ [.ref b], S5.set 0 rfl, ?_⟩
        rw [filt_yes (f := fun ns : List Int => bs.all fun b => b.any (mt ns)) hns hq, List.map_append]
        exact a4.snoc hA
      | false =>
        refine ⟨ys, S5, ?_⟩
        rw [filt_no (f := fun ns : List Int => bs.all fun b => b.any (mt ns)) hns hq]
        exact a4
    · rintro H4 ⟨ys, S4, a4⟩
      rw [List.take_of_length_le (by rw [lotsL_len]; omega), lots_kept hb] at a4
      obtain ⟨ks, rfl, hk, em⟩ := lots_of_ats a4
      have lk : ks.length = (keptM n bs).length := by
        have := congrArg List.length em
        rw [List.length_map, List.length_map] at this
        exact this
      refine ⟨_, rfl, D, _, rfl, .inl (Evl.sq_of (S4.get 0 rfl)), rfl, _, rfl, ?_⟩
      refine ite2 (fun hc => ?_) (fun hc => ?_)
      · have h0 : keptM n bs = [] := by
          have := V.int.inj (of_decide_eq_true hc)
          rw [refs_len] at this
          exact List.length_eq_zero_iff.mp (by omega)
        exact qe h0 H4 (S4.tail.down e2')
      · have h0 : keptM n bs ≠ [] := fun e => hc (decide_eq_true (by rw [refs_len, lk, e]; rfl))
        refine ⟨_, rfl, _, rfl, fun x dx nx ndx hne => ?_⟩
        have T1 := S4.new (o := .own x) ndx
        have nx1 : (upd H4 dx (.own x)) x = none := by rw [upd_ne (Ne.symm hne)]; exact nx
        have T2 := T1.sink.new (o := .ins C dx []) nx1
        have hDl : D ≠ x := ne_of_none (T1.get 1 rfl) nx1
        refine ⟨_, _, x, dx, D, n, ks, rfl, T2, T2.get 1 rfl, hDl, hk.ex T1.exS, hn, ⟨fun e0 => h0 (List.length_eq_zero_iff.mp (by rw [← lk, e0]; rfl)), by have := keptM_len (bs := bs) hn6; omega, fun p hp => ?_⟩, fun G' H' dl L eG S' hdl hL => ⟨rfl, ?_⟩⟩
        · have : p.2 ∈ ks.map (·.2) := List.mem_map_of_mem hp
          rw [em] at this
          obtain ⟨m, _, e3⟩ := List.mem_map.mp this
          rw [← e3]
          exact ⟨lot_ok m n, Nat.le_trans (lot_len m n) (by omega)⟩
        · have eHG : Ex G G' := (e2'.trans T1.exS).trans eG
          have S8 : Has G' H' ((x, .ins C dx (tf n dl)) :: l) := S'.drop2
          refine q h0 _ H' x L (eHG.trans S8.exS) S8.sink ⟨dx, dl, upd_same, S8.exS _ _ hdl, fun p hp => S8.exS _ _ (eG _ _ (T1.exS _ _ (hk p (hL.1 p hp))))⟩ ⟨fun p hp => ?_, fun m hm => ?_, hL.2.2⟩
          · have : p.2 ∈ ks.map (·.2) := List.mem_map_of_mem (hL.1 p hp)
            rw [em] at this
            obtain ⟨m, hm, e3⟩ := List.mem_map.mp this
            exact ⟨m, hm, e3.symm⟩
          · have : lotOf m n ∈ ks.map (·.2) := by
              rw [em]
              exact List.mem_map.mpr ⟨m, hm, rfl⟩
            obtain ⟨p, hp, e3⟩ := List.mem_map.mp this
            rw [← e3]
            exact hL.2.1 p hp
end
end TW
set_option Elab.async false
set_option linter.all false
set_option maxRecDepth 100000
set_option maxHeartbeats 4000000
namespace TW
open PySem PySem.Spec PyProof.Rows L2
def dueD (n : Nat) (bs : List Bar) : List PyData := ((keptM n bs).map fun m => tupD (lotOf m n)).mergeSort dLe
theorem keptM_ok {n : Nat} {bs : List Bar} (h : keptM n bs ≠ []) : masksOk n (keptM n bs) := ⟨List.Pairwise.sublist List.filter_sublist (rangeI_up _), h, fun m hm => by
  have := rangeI_mem.mp ((List.mem_filter.mp hm).1)
  have e : ((2 ^ n : Nat) : Int) = (2 : Int) ^ n := by push_cast; rfl
  rw [← e]
  exact this⟩
section
variable {P : Program} {w : World} {K : PySem.W.Frag} {mg : Str → Option Value} {base : Heap} {C N : Addr}
/-! _law_lots_due -/
abbrev NLD : List Str := ["wide", "bars", "mask"]
def spLotsDue : Sp := fun vs H Q _ => ∃ (G : Hp) (l : List (Addr × HO)) (n : Nat) (a : Addr) (xs : List V) (bs : List Bar), vs = [.int n, .ref a] ∧ Has G H l ∧ 0 < n ∧ n ≤ 6 ∧ Stays G l a (.lst xs) ∧ Ats G xs (bs.map dBar) ∧ ruleP n bs ∧
  ∀ (G' H' : Hp) (t : Addr) (ys : List V), Ex G G' → Has G' H' ((t, .lst ys) :: l) → Ats G' ys (dueD n bs) → Q (.ref t) H'
/-! _law_told_table -/
abbrev NTT : List Str := ["wide", "bars", "none", "book"]
def spToldTable : Sp := fun vs H Q _ => ∃ (G : Hp) (l : List (Addr × HO)) (n : Nat) (a : Addr) (xs : List V) (bs : List Bar), vs = [.int n, .ref a] ∧ Has G H l ∧ 0 < n ∧ n ≤ 6 ∧ Stays G l a (.lst xs) ∧ Ats G xs (bs.map dBar) ∧ ruleP n bs ∧ bs.length ≤ 1000 ∧
  ∀ (G' H' : Hp) (t : Addr) (ys : List V), Ex G G' → Has G' H' ((t, .lst ys) :: l) → Ats G' ys (dueD n bs) → Q (.ref t) H'
theorem ats_refs {G : Hp} {L : Lots} (h : InLots G L) : Ats G (refs L) ((L.map (·.2)).map tupD) := by
  rw [List.map_map]
  exact Ats.map_ fun q hq => at_lot (h q hq)
end
end TW
set_option Elab.async false
set_option linter.all false
set_option maxRecDepth 100000
set_option maxHeartbeats 4000000
namespace TW
open PySem PySem.Spec PyProof.Rows L2
def sw2 {α : Type} : List α → List α → List α
  | [], [a, b] => [b, a]
  | _, _ => []
theorem sw2_rel {vs : List V} {us : List Value} {zs : List V} {ws : List Value} (h1 : Vals vs us) (h2 : Vals zs ws) : Vals (sw2 vs zs) (sw2 us ws) := by
  cases h1 with
  | cons a b => exact .nil
  | nil =>
    cases h2 with
    | nil => exact .nil
    | cons a b =>
      cases b with
      | nil => exact .nil
      | cons c d =>
        cases d with
        | nil => exact .cons c (.cons a .nil)
        | cons e f => exact .nil
/-- a def that may raise, called by names alone, where it does not -/
theorem pe_kwC {X : Cx} {CX : CXT} {k : Nat} {x : Str} {ps ks : List Str} {g : List Value → List Value → List Value} {gV : List V → List V → List V} {sp : Sp} {E : XK} {kws : List Keyword} {tk : TA} {p pos : Pos} {f : Addr} {fd : FuncData}
    (F : FnOk X.prog X.w X.K X.mg X.base CX k f fd ps sp) (gm : X.mg x = some (.ref f)) (kp : PySem.W.keepIn X.K (.ref f) = true) (b : KBinds X.K fd ps ks g gV) (hx : Passes CX X E) (hr : Room k X.A) (hkw : PK X kws tk) (hg : Gl X x := by rfl)
    (hall : (backToKw pos (keywordEach kws X.env)).all (·.1.isSome) = true := by rfl) (hks : (backToKw pos (keywordEach kws X.env)).filterMap (·.1) = ks := by rfl) (hdb : (x == ("__debug__" : Str)) = false := by decide)
    (hpl : ((backTo pos (starEach [] X.env)).any (·.1) || (backToKw pos (keywordEach kws X.env)).any (·.1.isNone)) = false := by rfl) : PE X (.Call (.Name x p) [] kws pos) (fun σ H Q => tk σ H fun zs H2 => sp (gV [] zs) H2 Q E) := by
  refine ⟨fun pins s σ H Q I h => wpAny_Call_Name_kw (ld_glob I hg gm (PySem.W.callWith_KW0 (h₀ := X.base) I.ok.mod.kin kp hall (thn (hkw.run pos pins s σ H _ I h) fun ws s2 h2 => ?_) hpl) hdb)⟩
  obtain ⟨zs, H2, I2, rz, q2⟩ := h2
  rw [hks]
  exact ⟨I2.kIn, run_fnk (us := []) (vs := []) F hr b hx I2 .nil rz q2⟩
end TW
set_option Elab.async false
set_option linter.all false
set_option maxRecDepth 100000
set_option maxHeartbeats 4000000
/-! len(x) of an own class with its own __len__ -/
namespace TW
open PySem PySem.Spec PyProof.Rows L2
section
variable {prog : Program} {w : World} {A : Around} {E : Value → Shared → Prop} {s : Shared} {K : PySem.W.Frag} {x C f : Addr} {ox : Obj} {odd : Option Obj}
theorem len_ownW {Q : Value → Shared → Prop} (X : K.In s.heap) (I : PySem.W.InstAt s.heap x ox C odd) (hs : PySem.W.findIn K (.ref C) "__len__" = some (some (.ref f))) (hf : PySem.W.isFn K (.ref f) = true)
    (h : wpAny (model prog w) A.in1 (call (.ref f) [.ref x]) (fun r s' => ∃ n u, r = Value.int n u ∧ 0 ≤ n ∧ n < 2 ^ 63 ∧ Q (.int n s'.toks) { s' with toks := s'.toks + 1 }) E s) : wpAny (model prog w) A (call (.builtin "len") [.ref x]) Q E s := by
  refine Calls.call_function_entry kind_len plain_len entry_len (args_len1 _) ?_
  unfold Builtin.«len»
  refine wpAny_bind (m := oneArg "len" _) (wpAny_pure ?_)
  refine wpAny_bind (m := callSpecial? (.ref x) (Str.ofString "__len__")) (PySem.W.special_fn X I hs (beq_iff_eq.mp hf) (wpAny_mono h (fun r s' hr => ?_) fun _ _ y => y))
  obtain ⟨n, u, rfl, h0, h1, hq⟩ := hr
  refine wpAny_bind (wpAny_holding (wpAny_pure ?_))
  refine wpAny_bind (wpAny_letGo ?_)
  show wpAny _ _ (if n < 0 then _ else _) _ _ _
  rw [if_neg (by omega)]
  show wpAny _ _ (if n ≥ 2 ^ 63 then _ else _) _ _ _
  rw [if_neg (by omega)]
  exact wpAny_bind (wpAny_mkInt (wpAny_pure ⟨_, rfl, hq⟩))
end
def rLenOwn (C : Addr) (sp : Sp) : List V → Hp → VK → Prop := fun xs H Q => ∃ a dx fs, xs = [V.ref a] ∧ H a = some (.ins C dx fs) ∧ sp [.ref a] H (fun z H' => ∃ n : Int, z = .int n ∧ 0 ≤ n ∧ n < 2 ^ 63 ∧ Q (.int n) H') E0
theorem call_lenOwn {X : Cx} {k : Nat} {C f : Addr} {fd : FuncData} {sp : Sp} (hs : PySem.W.findIn X.K (.ref C) "__len__" = some (some (.ref f))) (hf : PySem.W.isFn X.K (.ref f) = true) (F : FnOk X.prog X.w X.K X.mg X.base CX0 k f fd ["self"] sp)
    (hb : Binds X.K fd ["self"] []) (hr : Room (k + 1) X.A) : CallR X (.builtin "len") (rLenOwn C sp) := by
  intro pins s σ H xs us Q I r h
  obtain ⟨a, dx, fs, rfl, ea, q⟩ := h
  obtain ⟨u, rfl, ru⟩ := r.one
  cases (show u = Value.ref a from ru)
  obtain ⟨mA, O, _, _, _, _⟩ := ins_get I.hok ea
  obtain ⟨od, J, _⟩ := O.look
  refine len_ownW I.kIn J hs hf (wpAny_call (codeAny_mono (F.run X.A.in1 X.stack s H ⟨[.ref a], []⟩ [.ref a] [.ref a] _ E0 hr.in1 I.env0.in1 (hb _ [.ref a] I.kIn rfl) (.cons rfl .nil) q) fun r s' hq => ?_))
  cases r with
  | error er => exact False.elim hq
  | ok fl =>
    cases fl with
    | ret u =>
      obtain ⟨v, H', I3, rv, n, rfl, h0, h1, q3⟩ := I.after hq
      obtain ⟨t, rfl⟩ : ∃ t, u = Value.int n t := rv
      exact ⟨n, t, rfl, h0, h1, .int n, H', I3.tok _, ⟨_, rfl⟩, q3⟩
    | next => exact False.elim hq
    | brk => exact False.elim hq
    | cont => exact False.elim hq
end TW
set_option Elab.async false
set_option linter.all false
set_option maxRecDepth 100000
set_option maxHeartbeats 4000000
namespace TW
open PySem PySem.Spec PyProof.Rows L2
/-! what can be reached: in any two things like a given one -/
def agr (ms : List Int) (a b : Nat) (m : Int) : Bool := ms.any fun h => (bitB h a == bitB m a) && (bitB h b == bitB m b)
def reachB (n : Nat) (ms : List Int) (m : Int) : Bool := (List.range n).all fun a => (List.range n).all fun b => decide (b < a) || agr ms a b m
def reachM (n : Nat) (ms : List Int) : List Int := (rangeI (2 ^ n)).filter (reachB n ms)
def Rch (n : Nat) (ms : List Int) (m : Int) : Prop := ∀ i, i < n → ∀ j, j < n → ∃ h ∈ ms, bitB h i = bitB m i ∧ bitB h j = bitB m j
theorem agr_iff {ms : List Int} {a b : Nat} {m : Int} : agr ms a b m = true ↔ ∃ h ∈ ms, bitB h a = bitB m a ∧ bitB h b = bitB m b := by
  unfold agr
  rw [List.any_eq_true]
  simp only [Bool.and_eq_true, beq_iff_eq]
theorem reachB_iff {n : Nat} {ms : List Int} {m : Int} : reachB n ms m = true ↔ Rch n ms m := by
  unfold reachB Rch
  rw [List.all_eq_true]
  constructor
  · intro h i hi j hj
    rcases Nat.lt_or_ge j i with c | c
    · have h1 := List.all_eq_true.mp (h j (List.mem_range.mpr hj)) i (List.mem_range.mpr hi)
      rw [Bool.or_eq_true, decide_eq_true_eq] at h1
      rcases h1 with h1 | h1
      · omega
      · obtain ⟨x, hx, h2, h3⟩ := agr_iff.mp h1
        exact ⟨x, hx, h3, h2⟩
    · have h1 := List.all_eq_true.mp (h i (List.mem_range.mpr hi)) j (List.mem_range.mpr hj)
      rw [Bool.or_eq_true, decide_eq_true_eq] at h1
      rcases h1 with h1 | h1
      · omega
      · exact agr_iff.mp h1
  · intro h i hi
    rw [List.all_eq_true]
    intro j hj
    rw [Bool.or_eq_true]
    exact .inr (agr_iff.mpr (h i (List.mem_range.mp hi) j (List.mem_range.mp hj)))
theorem mem_reach {n : Nat} {ms : List Int} {m : Int} : m ∈ reachM n ms ↔ (0 ≤ m ∧ m < 2 ^ n) ∧ Rch n ms m := by
  unfold reachM
  rw [List.mem_filter, reachB_iff, rangeI_mem, show ((2 ^ n : Nat) : Int) = (2 : Int) ^ n by push_cast; rfl]
theorem reach_sub {n : Nat} {ms : List Int} (h : masksOk n ms) {m : Int} (hm : m ∈ ms) : m ∈ reachM n ms := mem_reach.mpr ⟨h.2.2 m hm, fun _ _ _ _ => ⟨m, hm, rfl, rfl⟩⟩
theorem reach_ok {n : Nat} {ms : List Int} (h : masksOk n ms) : masksOk n (reachM n ms) := ⟨List.Pairwise.sublist List.filter_sublist (rangeI_up _), fun e => by
  obtain ⟨m, hm⟩ := List.exists_mem_of_ne_nil ms h.2.1
  have := reach_sub h hm
  rw [e] at this
  exact List.not_mem_nil this, fun m hm => (mem_reach.mp hm).1⟩
theorem rch_idem {n : Nat} {ms : List Int} (h : masksOk n ms) {m : Int} : Rch n (reachM n ms) m ↔ Rch n ms m := by
  constructor
  · intro q i hi j hj
    obtain ⟨x, hx, h1, h2⟩ := q i hi j hj
    obtain ⟨y, hy, h3, h4⟩ := (mem_reach.mp hx).2 i hi j hj
    exact ⟨y, hy, h3.trans h1, h4.trans h2⟩
  · intro q i hi j hj
    obtain ⟨x, hx, h1, h2⟩ := q i hi j hj
    exact ⟨x, reach_sub h hx, h1, h2⟩
theorem reach_idem {n : Nat} {ms : List Int} (h : masksOk n ms) : reachM n (reachM n ms) = reachM n ms := by
  unfold reachM
  refine filt_congr fun m _ => ?_
  rw [Bool.eq_iff_iff, reachB_iff, reachB_iff]
  exact rch_idem h
theorem nodup_lenI : ∀ {xs ys : List Int}, xs.Nodup → (∀ x ∈ xs, x ∈ ys) → xs.length ≤ ys.length
  | [], _, _, _ => Nat.zero_le _
  | x :: xs, ys, hn, hs => by
    have c := List.nodup_cons.mp hn
    have hx := hs x List.mem_cons_self
    have h1 := nodup_lenI (xs := xs) (ys := ys.erase x) c.2 fun y hy => (List.mem_erase_of_ne (fun e => c.1 (by rw [← e]; exact hy))).mpr (hs y (List.mem_cons_of_mem _ hy))
    have h2 := List.length_erase_of_mem hx
    have h3 := List.length_pos_of_mem hx
    rw [List.length_cons]
    omega
theorem reach_len {n : Nat} {ms : List Int} (h : masksOk n ms) : ms.length ≤ (reachM n ms).length := nodup_lenI (up_nodup h.1) fun _ hm => reach_sub h hm
/-! one that meets three -/
def maskN (f : Nat → Bool) : Nat → Nat
  | 0 => 0
  | n + 1 => if f n = true then 2 ^ n + maskN f n else maskN f n
theorem maskN_lt (f : Nat → Bool) : ∀ n, maskN f n < 2 ^ n
  | 0 => Nat.one_pos
  | n + 1 => by
    have := maskN_lt f n
    unfold maskN
    rw [Nat.pow_succ]
    split <;> omega
theorem maskN_bit (f : Nat → Bool) : ∀ n k, k < n → bitB (maskN f n : Int) k = f k
  | 0, _, h => by omega
  | n + 1, k, h => by
    unfold maskN
    by_cases e : k = n
    · subst e
      cases hf : f k with
      | true =>
        rw [if_pos rfl]
        exact bit_high (maskN_lt f k)
      | false =>
        rw [if_neg (by decide)]
        exact bit_low (maskN_lt f k)
    · have hk : k < n := by omega
      cases hf : f n with
      | true =>
        rw [if_pos rfl, bit_same hk]
        exact maskN_bit f n k hk
      | false =>
        rw [if_neg (by decide)]
        exact maskN_bit f n k hk
def maj (a b c : Int) (k : Nat) : Bool := (bitB a k && bitB b k) || (bitB a k && bitB c k) || (bitB b k && bitB c k)
theorem maj_two (a b c : Int) (k : Nat) : (bitB a k = maj a b c k ∧ bitB b k = maj a b c k) ∨ (bitB a k = maj a b c k ∧ bitB c k = maj a b c k) ∨ (bitB b k = maj a b c k ∧ bitB c k = maj a b c k) := by
  unfold maj
  cases bitB a k <;> cases bitB b k <;> cases bitB c k <;> simp
theorem maj_rch {n : Nat} {ms : List Int} {a b c : Int} (ha : Rch n ms a) (hb : Rch n ms b) (hc : Rch n ms c) : Rch n ms (maskN (maj a b c) n : Int) := by
  intro i hi j hj
  rw [maskN_bit _ n i hi, maskN_bit _ n j hj]
  have key : (bitB a i = maj a b c i ∧ bitB a j = maj a b c j) ∨ (bitB b i = maj a b c i ∧ bitB b j = maj a b c j) ∨ (bitB c i = maj a b c i ∧ bitB c j = maj a b c j) := by
    rcases maj_two a b c i with ⟨h1, h2⟩ | ⟨h1, h2⟩ | ⟨h1, h2⟩ <;> rcases maj_two a b c j with ⟨h3, h4⟩ | ⟨h3, h4⟩ | ⟨h3, h4⟩ <;> simp_all
  rcases key with ⟨h1, h2⟩ | ⟨h1, h2⟩ | ⟨h1, h2⟩
  · rw [← h1, ← h2]
    exact ha i hi j hj
  · rw [← h1, ← h2]
    exact hb i hi j hj
  · rw [← h1, ← h2]
    exact hc i hi j hj
theorem maj_met {n : Nat} {a b c : Int} {s : Sgn} (hs : s.1 < n) (h : (met a s = true ∧ met b s = true) ∨ (met a s = true ∧ met c s = true) ∨ (met b s = true ∧ met c s = true)) : met (maskN (maj a b c) n : Int) s = true := by
  unfold met at h ⊢
  rw [maskN_bit _ n s.1 hs]
  unfold maj
  generalize bitB a s.1 = x at h ⊢
  generalize bitB b s.1 = y at h ⊢
  generalize bitB c s.1 = z at h ⊢
  generalize s.2 = u at h ⊢
  revert h
  cases x <;> cases y <;> cases z <;> cases u <;> decide
def Mem (n : Nat) (ms : List Int) (m : Int) : Prop := (0 ≤ m ∧ m < 2 ^ n) ∧ Rch n ms m
theorem helly {n : Nat} {ms : List Int} (ne : ∃ m, Mem n ms m) : ∀ (k : Nat) (b : Bar), b.length ≤ k → (∀ s ∈ b, s.1 < n) → (∀ s ∈ b, ∀ t ∈ b, ∃ m, Mem n ms m ∧ met m s = true ∧ met m t = true) → ∃ m, Mem n ms m ∧ ∀ s ∈ b, met m s = true
  | _, [], _, _, _ => by
    obtain ⟨m, hm⟩ := ne
    exact ⟨m, hm, fun s hs => absurd hs List.not_mem_nil⟩
  | _, [s], _, _, h => by
    obtain ⟨m, hm, h1, _⟩ := h s List.mem_cons_self s List.mem_cons_self
    exact ⟨m, hm, fun t ht => by rw [List.mem_singleton.mp ht]; exact h1⟩
  | _, [s, t], _, _, h => by
    obtain ⟨m, hm, h1, h2⟩ := h s List.mem_cons_self t (List.mem_cons_of_mem _ List.mem_cons_self)
    refine ⟨m, hm, fun u hu => ?_⟩
    simp only [List.mem_cons, List.not_mem_nil, or_false] at hu
    rcases hu with rfl | rfl
    · exact h1
    · exact h2
  | 0, _ :: _ :: _ :: _, l, _, _ => by cases l
  | k + 1, s :: t :: u :: r, l, hb, h => by
    have sub : ∀ c : Bar, (∀ x ∈ c, x ∈ s :: t :: u :: r) → c.length ≤ k → ∃ m, Mem n ms m ∧ ∀ x ∈ c, met m x = true := fun c hc lc => helly ne k c lc (fun x hx => hb x (hc x hx)) fun x hx y hy => h x (hc x hx) y (hc y hy)
    have lr : r.length + 2 ≤ k := by
      simp only [List.length_cons] at l
      omega
    obtain ⟨a, ha, ma⟩ := sub (t :: u :: r) (fun x hx => List.mem_cons_of_mem _ hx) (by simp only [List.length_cons]; omega)
    obtain ⟨b, hb', mb⟩ := sub (s :: u :: r) (fun x hx => by
      rcases List.mem_cons.mp hx with rfl | hx
      · exact List.mem_cons_self
      · exact List.mem_cons_of_mem _ (List.mem_cons_of_mem _ hx)) (by simp only [List.length_cons]; omega)
    obtain ⟨c, hc, mc⟩ := sub (s :: t :: r) (fun x hx => by
      rcases List.mem_cons.mp hx with rfl | hx
      · exact List.mem_cons_self
      · rcases List.mem_cons.mp hx with rfl | hx
        · exact List.mem_cons_of_mem _ List.mem_cons_self
        · exact List.mem_cons_of_mem _ (List.mem_cons_of_mem _ (List.mem_cons_of_mem _ hx))) (by simp only [List.length_cons]; omega)
    refine ⟨(maskN (maj a b c) n : Int), ⟨⟨by omega, by have := maskN_lt (maj a b c) n; exact_mod_cast this⟩, maj_rch ha.2 hb'.2 hc.2⟩, fun x hx => maj_met (hb x hx) ?_⟩
    rcases List.mem_cons.mp hx with rfl | hx
    · exact .inr (.inr ⟨mb _ List.mem_cons_self, mc _ List.mem_cons_self⟩)
    · rcases List.mem_cons.mp hx with rfl | hx
      · exact .inr (.inl ⟨ma _ List.mem_cons_self, mc _ (List.mem_cons_of_mem _ List.mem_cons_self)⟩)
      · rcases List.mem_cons.mp hx with rfl | hx
        · exact .inl ⟨ma _ (List.mem_cons_of_mem _ List.mem_cons_self), mb _ (List.mem_cons_of_mem _ List.mem_cons_self)⟩
        · exact .inl ⟨ma _ (List.mem_cons_of_mem _ (List.mem_cons_of_mem _ hx)), mb _ (List.mem_cons_of_mem _ (List.mem_cons_of_mem _ hx))⟩
/-! the rules of a table keep just what can be reached -/
theorem mem_rules {lots : List (List Int)} {n : Nat} {b : Bar} : b ∈ rulesU lots n ↔ (∃ s ∈ allS n, hasR lots [s] = true ∧ b = [s]) ∨ (∃ s ∈ allS n, ∃ t ∈ allS n, hasR lots [s] = false ∧ hasR lots [t] = false ∧ s.1 < t.1 ∧ hasR lots [s, t] = true ∧ b = [s, t]) := by
  unfold rulesU
  rw [List.mem_append]
  constructor
  · rintro (h | h)
    · obtain ⟨s, hs, rfl⟩ := List.mem_map.mp h
      obtain ⟨h1, h2⟩ := List.mem_filter.mp hs
      exact .inl ⟨s, h1, h2, rfl⟩
    · obtain ⟨h1, h2⟩ := List.mem_filter.mp h
      obtain ⟨s, hs, h3⟩ := List.mem_flatMap.mp h1
      obtain ⟨t, ht, rfl⟩ := List.mem_map.mp h3
      obtain ⟨h4, h5⟩ := List.mem_filter.mp ht
      obtain ⟨h6, h7⟩ := List.mem_filter.mp hs
      obtain ⟨h8, h9⟩ := List.mem_filter.mp h4
      refine .inr ⟨s, h6, t, h8, ?_, ?_, of_decide_eq_true h5, h2, rfl⟩
      · simpa using h7
      · simpa using h9
  · rintro (⟨s, h1, h2, rfl⟩ | ⟨s, h1, t, h2, h3, h4, h5, h6, rfl⟩)
    · exact .inl (List.mem_map.mpr ⟨s, List.mem_filter.mpr ⟨h1, h2⟩, rfl⟩)
    · refine .inr (List.mem_filter.mpr ⟨List.mem_flatMap.mpr ⟨s, List.mem_filter.mpr ⟨h1, by rw [h3]; rfl⟩, List.mem_map.mpr ⟨t, List.mem_filter.mpr ⟨List.mem_filter.mpr ⟨h2, by rw [h4]; rfl⟩, decide_eq_true h5⟩, rfl⟩⟩, h6⟩)
theorem mem_allS {n : Nat} {s : Sgn} : s ∈ allS n ↔ s.1 < n := by
  refine ⟨allS_lt, fun h => ?_⟩
  unfold allS
  refine List.mem_flatMap.mpr ⟨s.1, List.mem_range.mpr h, ?_⟩
  obtain ⟨k, b⟩ := s
  cases b <;> simp
theorem rules_ok {lots : List (List Int)} {n : Nat} : ruleP n (rulesU lots n) := fun b hb => by
  rcases mem_rules.mp hb with ⟨s, h1, _, rfl⟩ | ⟨s, h1, t, h2, _, _, h5, _, rfl⟩
  · exact ⟨List.cons_ne_nil _ _, by show 1 ≤ 2; decide, fun x hx => by rw [List.mem_singleton.mp hx]; exact allS_lt h1, List.pairwise_singleton _ _⟩
  · refine ⟨List.cons_ne_nil _ _, by show 2 ≤ 2; decide, fun x hx => ?_, List.pairwise_cons.mpr ⟨fun x hx => by rw [List.mem_singleton.mp hx]; exact h5, List.pairwise_singleton _ _⟩⟩
    simp only [List.mem_cons, List.not_mem_nil, or_false] at hx
    rcases hx with rfl | rfl
    · exact allS_lt h1
    · exact allS_lt h2
theorem rules_len {lots : List (List Int)} {n : Nat} (hn : n ≤ 6) : (rulesU lots n).length ≤ 1000 := by
  unfold rulesU
  rw [List.length_append, List.length_map]
  have al := allS_len n
  have h1 : (singleS lots n).length ≤ 12 := Nat.le_trans (List.length_filter_le _ _) (by omega)
  have h0 : (opensS lots n).length ≤ 12 := Nat.le_trans (List.length_filter_le _ _) (by omega)
  have h2 := flat_len (f := pairsAt (opensS lots n)) (k := 12) (l := opensS lots n) fun s _ => Nat.le_trans (pairsAt_len _ s) h0
  have h3 := List.length_filter_le (hasR lots) ((opensS lots n).flatMap (pairsAt (opensS lots n)))
  have h4 := Nat.mul_le_mul_right 12 h0
  omega
theorem met_not (m h : Int) (k : Nat) : met h (k, !bitB m k) = false ↔ bitB h k = bitB m k := by
  unfold met
  cases bitB h k <;> cases bitB m k <;> simp
theorem kept_rules {lots : List (List Int)} {n : Nat} {ms : List Int} (are : LotsAre n ms lots) {bs : List Bar} (hbs : ∀ b, b ∈ bs ↔ b ∈ rulesU lots n) (m : Int) : keptB m bs = reachB n ms m := by
  rw [Bool.eq_iff_iff, reachB_iff]
  unfold keptB
  rw [List.all_eq_true]
  have h1 : ∀ {s : Sgn}, s.1 < n → hasR lots [s] = ms.all fun h => met h s := fun {s} hs => by
    rw [hasR_eq are (fun x hx => by rw [List.mem_singleton.mp hx]; exact hs), hasM_one]
    rfl
  have h2 : ∀ {s t : Sgn}, s.1 < n → t.1 < n → hasR lots [s, t] = ms.all fun h => met h s || met h t := fun {s t} hs ht => by
    rw [hasR_eq are (fun x hx => by
      simp only [List.mem_cons, List.not_mem_nil, or_false] at hx
      rcases hx with rfl | rfl
      · exact hs
      · exact ht)]
    unfold hasM
    congr 1
    funext h
    show (met h s || (met h t || false)) = _
    rw [Bool.or_false]
  constructor
  · intro q i hi j hj
    refine Classical.byContradiction fun hno => ?_
    have hs : ∀ h ∈ ms, met h (i, !bitB m i) = true ∨ met h (j, !bitB m j) = true := fun h hh => by
      refine Classical.byContradiction fun c => hno ⟨h, hh, ?_⟩
      have c1 : met h (i, !bitB m i) = false := by
        cases e : met h (i, !bitB m i) with
        | true => exact absurd (.inl e) c
        | false => rfl
      have c2 : met h (j, !bitB m j) = false := by
        cases e : met h (j, !bitB m j) with
        | true => exact absurd (.inr e) c
        | false => rfl
      exact ⟨(met_not m h i).mp c1, (met_not m h j).mp c2⟩
    have own : ∀ k, met m (k, !bitB m k) = false := fun k => (met_not m m k).mpr rfl
    have one : ∀ k, k < n → hasR lots [((k, !bitB m k) : Sgn)] = false := fun k hk => by
      cases e : hasR lots [((k, !bitB m k) : Sgn)] with
      | false => rfl
      | true =>
        have hb := q _ ((hbs _).mpr (mem_rules.mpr (.inl ⟨_, mem_allS.mpr hk, e, rfl⟩)))
        have hb' : (met m (k, !bitB m k) || false) = true := hb
        rw [own k] at hb'
        cases hb'
    have two : ∀ k l, k < l → l < n → (∀ h ∈ ms, met h (k, !bitB m k) = true ∨ met h (l, !bitB m l) = true) → False := fun k l hkl hl hh => by
      have e : hasR lots [((k, !bitB m k) : Sgn), (l, !bitB m l)] = true := by
        rw [h2 (show k < n by omega) hl, List.all_eq_true]
        intro h hm
        rw [Bool.or_eq_true]
        exact hh h hm
      have hb := q _ ((hbs _).mpr (mem_rules.mpr (.inr ⟨_, mem_allS.mpr (show k < n by omega), _, mem_allS.mpr hl, one k (by omega), one l hl, hkl, e, rfl⟩)))
      have hb' : (met m (k, !bitB m k) || (met m (l, !bitB m l) || false)) = true := hb
      rw [own k, own l] at hb'
      cases hb'
    rcases Nat.lt_trichotomy i j with c | c | c
    · exact two i j c hj hs
    · subst c
      have e : hasR lots [((i, !bitB m i) : Sgn)] = true := by
        rw [h1 hi, List.all_eq_true]
        intro h hm
        rcases hs h hm with e | e <;> exact e
      rw [one i hi] at e
      cases e
    · exact two j i c hi fun h hm => (hs h hm).symm
  · intro q b hb
    rcases mem_rules.mp ((hbs b).mp hb) with ⟨s, hs, h3, rfl⟩ | ⟨s, hs, t, ht, _, _, _, h3, rfl⟩
    · have ls := allS_lt hs
      rw [h1 ls, List.all_eq_true] at h3
      obtain ⟨h, hh, e1, _⟩ := q s.1 ls s.1 ls
      have := h3 h hh
      unfold met at this
      rw [e1] at this
      show (met m s || false) = true
      unfold met
      rw [this]
      rfl
    · have ls := allS_lt hs
      have lt := allS_lt ht
      rw [h2 ls lt, List.all_eq_true] at h3
      obtain ⟨h, hh, e1, e2⟩ := q s.1 ls t.1 lt
      have := h3 h hh
      unfold met at this
      rw [e1, e2] at this
      show (met m s || (met m t || false)) = true
      unfold met
      rw [Bool.or_false]
      exact this
theorem keptM_rules {lots : List (List Int)} {n : Nat} {ms : List Int} (are : LotsAre n ms lots) {bs : List Bar} (hbs : ∀ b, b ∈ bs ↔ b ∈ rulesU lots n) : keptM n bs = reachM n ms := by
  unfold keptM reachM
  exact filt_congr fun m _ => kept_rules are hbs m
theorem rulesD_bars (lots : List (List Int)) (n : Nat) : ∃ bs : List Bar, rulesD lots n = bs.map dBar ∧ bs.Perm (rulesU lots n) := by
  obtain ⟨bs, pm, e⟩ := perm_back (f := dBar) (m := rulesU lots n) (List.mergeSort_perm ((rulesU lots n).map dBar) dLe)
  exact ⟨bs, e, pm⟩
theorem tabOf_len {n : Nat} {ms : List Int} {L : Lots} (h : TabOf n ms L) (hm : masksOk n ms) : L.length = ms.length := by
  have h1 := congrArg List.length (lots_told h hm)
  rw [(List.mergeSort_perm _ _).length_eq, List.length_map, List.length_map, List.length_map] at h1
  exact h1.symm
section
variable {P : Program} {w : World} {K : PySem.W.Frag} {mg : Str → Option Value} {base : Heap} {C N : Addr}
/-! Table.__len__ -/
theorem sc_Table_len : FnScope ["self"] ["self"] (defScope s_Table_len) := ⟨rfl, rfl, rfl, by decide +kernel, rfl, by decide +kernel, by decide +kernel⟩
def spLen (C : Addr) : Sp := fun vs H Q _ => ∃ (a : Addr) (n : Nat) (L : Lots), vs = [.ref a] ∧ TabAt C H a n L ∧ Q (.int L.length) H
theorem ok_len {f : Addr} {fd : FuncData} (F : Fun K "__len__" "Table.__len__" s_Table_len f fd) (z : Z mg) (T : TC K mg C) : FnOk P w K mg base CX0 1 f fd ["self"] (spLen C) := by
  refine F.ok sc_Table_len (fun vs H Q E h => ?_) (fun cdv A outer s H vs Q E hr h => ?_)
  · obtain ⟨a, n, L, rfl, _⟩ := h
    rfl
  · obtain ⟨a, n, L, rfl, ⟨dx, l, h1, h2, h3⟩, q⟩ := h
    rw [← refs_len L] at q
    exact ⟨_, pss_one (ps_ret (pe_callB call_len_seq (by rfl) z.len PySem.boot_len (pa_cons (pe_fld (pv 0) rfl) pa_nil))), _, rfl, a, C, dx, _, _, rfl, h1, T.cl, T.nL, tf_lots n l, l, _, rfl, .inr (Evl.st_of h2), q⟩
structure TLn (P : Program) (w : World) (K : PySem.W.Frag) (mg : Str → Option Value) (base : Heap) (C f : Addr) (fd : FuncData) : Prop where
  at_ : PySem.W.findIn K (.ref C) "__len__" = some (some (.ref f))
  fn : PySem.W.isFn K (.ref f) = true
  ok : FnOk P w K mg base CX0 1 f fd ["self"] (spLen C)
  b : Binds K fd ["self"] []
/-! closed_table -/
theorem sc_closed_table : FnScope ["table"] ["table"] (defScope s_closed_table) := ⟨rfl, rfl, rfl, by decide +kernel, rfl, by decide +kernel, by decide +kernel⟩
def spClosed (C : Addr) : Sp := fun vs H Q _ => ∃ (G : Hp) (l : List (Addr × HO)) (a : Addr) (n : Nat) (L : Lots) (ms : List Int), vs = [.ref a] ∧ Has G H l ∧ TabAt C G a n L ∧ TabOf n ms L ∧ masksOk n ms ∧ 0 < n ∧ n ≤ 6 ∧
  ∀ (G' H' : Hp) (t : Addr) (L' : Lots), Ex G G' → Has G' H' l → TabAt C G' t n L' → TabOf n (reachM n ms) L' → Q (.ref t) H'
theorem fn_closed_table {f gp gf fr : Addr} {fd gfd frd : FuncData} (F : Fun K "closed_table" "closed_table" s_closed_table f fd) (T : TC K mg C) (PT : TG P w K mg base C gp gf gfd "things" (spThings C)) (O_check_table : Ok P w K mg base 1 "check_table" ["table"] (spCheckTable C))
    (O_rules_of : Ok P w K mg base 5 "rules_of" ["table"] (spRulesOf C)) (R : FnOk P w K mg base (L2.CX P w) 7 fr frd ["things", "rules"] (spTableOf C N)) (gR : mg "table_of" = some (.ref fr)) (kR : PySem.W.keepIn K (.ref fr) = true) (bP : Binds K frd ["things", "rules"] []) : FnOk P w K mg base CX0 8 f fd ["table"] (spClosed C) := by
  refine F.ok sc_closed_table (fun vs H Q E h => ?_) (fun cdv A outer s H vs Q E hr h => ?_)
  · obtain ⟨G, l, a, n, L, ms, rfl, _⟩ := h
    rfl
  · obtain ⟨G, l, a, n, L, ms, rfl, S, tab, htab, hms, hn, hn6, q⟩ := h
    obtain ⟨dx, tl, h1, h2, h3⟩ := id tab
    refine ⟨_, (pss_cons (ps_expr (pe_o O_check_table (hr.mono (by decide)) (pa_cons (pv 0) pa_nil)))
      (pss_one (ps_ret (pe_call R hr (by rfl) gR kR bP .nil passL (pa_cons (pe_prop (pv 0) T.cl PT.at_ PT.ok (hr.mono (by decide)) PT.b .nil pass0 rfl) (pa_cons (pe_o O_rules_of (hr.mono (by decide)) (pa_cons (pv 0) pa_nil)) pa_nil)))))), ?_⟩
    refine ⟨_, rfl, a, n, L, rfl, tab.ex S.ex, ?_⟩
    refine ⟨_, rfl, a, dx, _, rfl, S.ex _ _ h1, a, n, L, rfl, tab.ex S.ex, ?_⟩
    refine ⟨_, rfl, G, l, a, n, L, rfl, S, tab, by omega, fun G1 t xs H1 e1 S1 a1 => ?_⟩
    obtain ⟨bs, eb, pm⟩ := rulesD_bars (L.map (·.2)) n
    rw [eb] at a1
    have hb : ruleP n bs := fun b hb => rules_ok b (pm.mem_iff.mp hb)
    have ek : keptM n bs = reachM n ms := keptM_rules (tabOf_are htab) fun b => pm.mem_iff
    refine ⟨G1, (t, .lst xs) :: l, n, t, xs, bs, rfl, S1, hn, hn6, Stays.cell 0 rfl, a1, hb, by rw [pm.length_eq]; exact rules_len hn6, fun e0 => ?_, fun _ G' H' t' L' e' S' tab' htab' => ?_⟩
    · rw [ek] at e0
      exact absurd e0 (reach_ok hms).2.1
    · rw [ek] at htab'
      exact q G' H' t' L' (e1.trans e') S'.tail tab' htab'
/-! is_closed -/
theorem sc_is_closed : FnScope ["table"] ["table"] (defScope s_is_closed) := ⟨rfl, rfl, rfl, by decide +kernel, rfl, by decide +kernel, by decide +kernel⟩
def shutB (n : Nat) (ms : List Int) : Bool := decide ((reachM n ms).length = ms.length)
def spIsClosed (C : Addr) : Sp := fun vs H Q _ => ∃ (G : Hp) (l : List (Addr × HO)) (a : Addr) (n : Nat) (L : Lots) (ms : List Int), vs = [.ref a] ∧ Has G H l ∧ TabAt C G a n L ∧ TabOf n ms L ∧ masksOk n ms ∧ 0 < n ∧ n ≤ 6 ∧
  ∀ H' : Hp, Has G H' l → Q (.bl (shutB n ms)) H'
theorem dec_int (a b : Nat) : decide (V.int (a : Int) = V.int (b : Int)) = decide (a = b) := by
  rw [Bool.eq_iff_iff, decide_eq_true_eq, decide_eq_true_eq]
  constructor
  · intro h
    have := V.int.inj h
    omega
  · rintro rfl
    rfl
theorem lots_le {n : Nat} {ms : List Int} {L : Lots} (h : TabOf n ms L) (hm : masksOk n ms) (hn : 0 < n) (hn6 : n ≤ 6) : L.length ≤ 64 := by
  rw [tabOf_len h hm]
  exact masks_len hn hn6 hm
theorem ok_is_closed {fl : Addr} {fld : FuncData} (D : Dfn K mg "is_closed" s_is_closed ["table"]) (z : Z mg) (LN : TLn P w K mg base C fl fld) (O_closed : Ok P w K mg base 8 "closed_table" ["table"] (spClosed C)) : Ok P w K mg base 9 "is_closed" ["table"] (spIsClosed C) := D.ok fun f fd F => by
  refine F.ok sc_is_closed (fun vs H Q E h => ?_) (fun cdv A outer s H vs Q E hr h => ?_)
  · obtain ⟨G, l, a, n, L, ms, rfl, _⟩ := h
    rfl
  · obtain ⟨G, l, a, n, L, ms, rfl, S, tab, htab, hms, hn, hn6, q⟩ := h
    refine ⟨_, (pss_one (ps_ret (pe_cmpR op_eq (pe_callB (call_lenOwn LN.at_ LN.fn LN.ok LN.b (hr.mono (by decide))) (by rfl) z.len PySem.boot_len (pa_cons (pe_o O_closed hr (pa_cons (pv 0) pa_nil)) pa_nil)) (pe_callB (call_lenOwn LN.at_ LN.fn LN.ok LN.b (hr.mono (by decide))) (by rfl) z.len PySem.boot_len (pa_cons (pv 0) pa_nil)) (nomark _)))), ?_⟩
    refine ⟨_, rfl, G, l, a, n, L, ms, rfl, S, tab, htab, hms, hn, hn6, fun G' H' t L' e S' tab' htab' => ?_⟩
    obtain ⟨dx', tl', h1', h2', h3'⟩ := id tab'
    have tabG := tab.ex e
    obtain ⟨dx, tl, h1, h2, h3⟩ := id tabG
    have l1 := lots_le htab' (reach_ok hms) hn hn6
    have l2 := lots_le htab hms hn hn6
    refine ⟨t, dx', _, rfl, S'.ex _ _ h1', t, n, L', rfl, tab'.ex S'.ex, (L'.length : Int), rfl, by omega, by omega, ?_⟩
    refine ⟨_, rfl, a, dx, _, rfl, S'.ex _ _ h1, a, n, L, rfl, tabG.ex S'.ex, (L.length : Int), rfl, by omega, by omega, ?_⟩
    refine ⟨rfl, ?_⟩
    have h := q H' (S'.down e)
    unfold shutB at h
    rw [← tabOf_len htab' (reach_ok hms), ← tabOf_len htab hms, ← dec_int] at h
    exact h
/-! _check_closed -/
theorem sc__check_closed : FnScope ["table"] ["table"] (defScope s_check_closed) := ⟨rfl, rfl, rfl, by decide +kernel, rfl, by decide +kernel, by decide +kernel⟩
def spCheckClosed (C NC : Addr) : Sp := fun vs H Q E => ∃ (G : Hp) (l : List (Addr × HO)) (a : Addr) (n : Nat) (L : Lots) (ms : List Int), vs = [.ref a] ∧ Has G H l ∧ TabAt C G a n L ∧ TabOf n ms L ∧ masksOk n ms ∧ 0 < n ∧ n ≤ 6 ∧
  (shutB n ms = true → ∀ H' : Hp, Has G H' l → Q .non H') ∧ (shutB n ms = false → ∀ H' : Hp, Has G H' l → E (.ref NC) none H')
theorem fn_check_closed {f NC : Addr} {fd : FuncData} (F : Fun K "check_closed" "check_closed" s_check_closed f fd) (TE : TN K mg "NotClosed" NC) (O_is_closed : Ok P w K mg base 9 "is_closed" ["table"] (spIsClosed C)) : FnOk P w K mg base (L2.CX P w) 10 f fd ["table"] (spCheckClosed C NC) := by
  refine F.okX sc__check_closed (fun vs H Q E h => ?_) (fun cdv A outer s H vs Q E hr h => ?_)
  · obtain ⟨G, l, a, n, L, ms, rfl, _⟩ := h
    rfl
  · obtain ⟨G, l, a, n, L, ms, rfl, S, tab, htab, hms, hn, hn6, q1, q2⟩ := h
    refine ⟨_, (pss_one (ps_if (pt_not (pt_val (pe_o O_is_closed hr (pa_cons (pv 0) pa_nil)))) (pss_one (ps_raise rfl (takes_of rfl rfl rfl rfl) (pmk_own PySem.F.excBase_ValueError TE.ex TE.g TE.k (raises_own TE.b TE.t) (by exact rfl)))) pss_nil)), ?_⟩
    refine ⟨_, rfl, G, l, a, n, L, ms, rfl, S, tab, htab, hms, hn, hn6, fun H' S' => ⟨_, rfl, ?_⟩⟩
    cases hb : shutB n ms with
    | true => exact q1 hb H' S'
    | false => exact q2 hb H' S'
end
end TW
set_option Elab.async false
set_option linter.all false
set_option maxRecDepth 100000
set_option maxHeartbeats 4000000
namespace TW
open PySem PySem.Spec PyProof.Rows L2
/-! groups of literals that cannot be together -/
def pairsB (b : Bar) : List Bar := b.flatMap (pairsAt b)
def groupsB (b : Bar) : List Bar := b.map (fun s => [s]) ++ pairsB b
def canM (ms : List Int) (g : Bar) : Bool := ms.any fun m => g.all (met m)
def dueM (ms : List Int) (b : Bar) : Option Bar := (groupsB b).find? fun g => !canM ms g
def partP (n : Nat) (b : Bar) : Prop := b.length ≤ 100 ∧ (∀ s ∈ b, s.1 < n) ∧ UpB b
theorem all_mt {m : Int} {n : Nat} {b : Bar} (h : ∀ s ∈ b, s.1 < n) : b.all (mt (lotOf m n)) = b.all (met m) := by
  induction b with
  | nil => rfl
  | cons s b ih => rw [List.all_cons, List.all_cons, mt_lot (h s List.mem_cons_self), ih fun t ht => h t (List.mem_cons_of_mem _ ht)]
theorem can_eq {n : Nat} {ms : List Int} {lots : List (List Int)} (h : LotsAre n ms lots) {b : Bar} (hb : ∀ s ∈ b, s.1 < n) : canB lots b = canM ms b := by
  unfold canB canM
  rw [Bool.eq_iff_iff, List.any_eq_true, List.any_eq_true]
  constructor
  · rintro ⟨x, hx, q⟩
    obtain ⟨m, hm, rfl⟩ := h.1 x hx
    exact ⟨m, hm, by rw [← all_mt hb]; exact q⟩
  · rintro ⟨m, hm, q⟩
    exact ⟨_, h.2 m hm, by rw [all_mt hb]; exact q⟩
theorem canM_iff {ms : List Int} {g : Bar} : canM ms g = true ↔ ∃ m ∈ ms, ∀ s ∈ g, met m s = true := by
  unfold canM
  rw [List.any_eq_true]
  simp only [List.all_eq_true]
theorem canM_sub {ms : List Int} {g b : Bar} (h : canM ms b = true) (hs : ∀ s ∈ g, s ∈ b) : canM ms g = true := by
  obtain ⟨m, hm, q⟩ := canM_iff.mp h
  exact canM_iff.mpr ⟨m, hm, fun s hs' => q s (hs s hs')⟩
theorem group_sub {b g : Bar} (h : g ∈ groupsB b) : (∀ s ∈ g, s ∈ b) ∧ g.length ≤ 2 ∧ UpB g := by
  unfold groupsB pairsB pairsAt at h
  rcases List.mem_append.mp h with h | h
  · obtain ⟨s, hs, rfl⟩ := List.mem_map.mp h
    exact ⟨fun t ht => by rw [List.mem_singleton.mp ht]; exact hs, by show 1 ≤ 2; decide, List.pairwise_singleton _ _⟩
  · obtain ⟨s, hs, h2⟩ := List.mem_flatMap.mp h
    obtain ⟨t, ht, rfl⟩ := List.mem_map.mp h2
    obtain ⟨h3, h4⟩ := List.mem_filter.mp ht
    refine ⟨fun u hu => ?_, by show 2 ≤ 2; decide, List.pairwise_cons.mpr ⟨fun u hu => by rw [List.mem_singleton.mp hu]; exact of_decide_eq_true h4, List.pairwise_singleton _ _⟩⟩
    simp only [List.mem_cons, List.not_mem_nil, or_false] at hu
    rcases hu with rfl | rfl
    · exact hs
    · exact h3
theorem due_none_of_can {ms : List Int} {b : Bar} (h : canM ms b = true) : dueM ms b = none := by
  unfold dueM
  rw [List.find?_eq_none]
  intro g hg
  rw [canM_sub h (group_sub hg).1]
  decide
/-- a table is closed -/
def Shut (n : Nat) (ms : List Int) : Prop := masksOk n ms ∧ reachM n ms = ms
theorem can_of_due {n : Nat} {ms : List Int} {b : Bar} (hs : Shut n ms) (hb : ∀ s ∈ b, s.1 < n) (ub : UpB b) (h : dueM ms b = none) : canM ms b = true := by
  unfold dueM at h
  rw [List.find?_eq_none] at h
  have grp : ∀ g ∈ groupsB b, canM ms g = true := fun g hg => by
    have := h g hg
    cases e : canM ms g with
    | true => rfl
    | false => rw [e] at this; exact absurd rfl this
  have mem : ∀ m, m ∈ ms ↔ Mem n ms m := fun m => by
    have := @mem_reach n ms m
    rw [hs.2] at this
    exact this
  obtain ⟨m0, hm0⟩ := List.exists_mem_of_ne_nil ms hs.1.2.1
  have one : ∀ s ∈ b, ∃ m, Mem n ms m ∧ met m s = true ∧ met m s = true := fun s hs' => by
    obtain ⟨m, hm, q⟩ := canM_iff.mp (grp [s] (List.mem_append_left _ (List.mem_map.mpr ⟨s, hs', rfl⟩)))
    exact ⟨m, (mem m).mp hm, q s List.mem_cons_self, q s List.mem_cons_self⟩
  have two : ∀ s ∈ b, ∀ t ∈ b, s.1 < t.1 → ∃ m, Mem n ms m ∧ met m s = true ∧ met m t = true := fun s hs' t ht hlt => by
    obtain ⟨m, hm, q⟩ := canM_iff.mp (grp [s, t] (List.mem_append_right _ (List.mem_flatMap.mpr ⟨s, hs', List.mem_map.mpr ⟨t, List.mem_filter.mpr ⟨ht, decide_eq_true hlt⟩, rfl⟩⟩)))
    exact ⟨m, (mem m).mp hm, q s List.mem_cons_self, q t (List.mem_cons_of_mem _ List.mem_cons_self)⟩
  have same : ∀ s ∈ b, ∀ t ∈ b, s.1 = t.1 → s = t := fun s hs' t ht e => by
    obtain ⟨i, hi⟩ := List.mem_iff_getElem?.mp hs'
    obtain ⟨j, hj⟩ := List.mem_iff_getElem?.mp ht
    have pw := List.pairwise_iff_getElem.mp ub
    obtain ⟨hi1, hi2⟩ := List.getElem?_eq_some_iff.mp hi
    obtain ⟨hj1, hj2⟩ := List.getElem?_eq_some_iff.mp hj
    rcases Nat.lt_trichotomy i j with c | c | c
    · have := pw i j hi1 hj1 c
      rw [hi2, hj2] at this
      omega
    · subst c
      rw [← hi2, ← hj2]
    · have := pw j i hj1 hi1 c
      rw [hi2, hj2] at this
      omega
  obtain ⟨m, hm, q⟩ := helly ⟨m0, (mem m0).mp hm0⟩ b.length b (Nat.le_refl _) hb fun s hs' t ht => by
    rcases Nat.lt_trichotomy s.1 t.1 with c | c | c
    · exact two s hs' t ht c
    · rw [← same s hs' t ht c]
      exact one s hs'
    · obtain ⟨m, h1, h2, h3⟩ := two t ht s hs' c
      exact ⟨m, h1, h3, h2⟩
  exact canM_iff.mpr ⟨m, (mem m).mpr hm, q⟩
theorem find_filter {α : Type} (p : α → Bool) : ∀ l : List α, l.find? p = (l.filter p)[0]?
  | [] => rfl
  | x :: l => by
    rw [List.find?_cons, List.filter_cons]
    cases h : p x with
    | true => rfl
    | false =>
      rw [if_neg (by decide)]
      exact find_filter p l
theorem pairsB_len {b : Bar} (h : b.length ≤ 100) : (pairsB b).length ≤ 100 * 100 := by
  unfold pairsB
  have h1 := flat_len (f := pairsAt b) (k := 100) (l := b) fun s _ => Nat.le_trans (pairsAt_len b s) h
  have h4 := Nat.mul_le_mul_right 100 h
  omega
section
variable {P : Program} {w : World} {K : PySem.W.Frag} {mg : Str → Option Value} {base : Heap} {C N : Addr}
/-! _pairs -/
abbrev NPR : List Str := ["part", "low", "high"]
theorem sc__pairs : FnScope NPR ["part"] (defScope s__pairs) := ⟨rfl, rfl, rfl, by decide +kernel, rfl, by decide +kernel, by decide +kernel⟩
def spPairs : Sp := fun vs H Q _ => ∃ (G : Hp) (l : List (Addr × HO)) (v : V) (b : Bar), vs = [v] ∧ Has G H l ∧ At G v (dBar b) ∧ b.length ≤ 100 ∧ ∀ (G' H' : Hp) (t : Addr) (xs : List V), Ex G G' → Has G' H' ((t, .lst xs) :: l) → Ats G' xs ((pairsB b).map dBar) → Q (.ref t) H'
theorem ok_pairs (D : Dfn K mg "_pairs" s__pairs ["part"]) : Ok P w K mg base 1 "_pairs" ["part"] spPairs := D.ok fun f fd F => by
  refine F.ok sc__pairs (fun vs H Q E h => ?_) (fun cdv A outer s H vs Q E hr h => ?_)
  · obtain ⟨G, l, v, b, rfl, _⟩ := h
    rfl
  · obtain ⟨G, l, v, os, rfl, S0, hv, hl, q⟩ := h
    obtain ⟨p, y2, rfl, hp0, hy2⟩ := hv.bar
    have ly2 : y2.length = os.length := by rw [hy2.1, List.length_map]
    refine ⟨_, (pss_one (ps_ret (pe_lc2 (own := [("low", 1), ("high", 2)]) (vs1 := [2]) (g := gName 1) (g1 := gName 2) rfl sc__pairs.nd (pi_tup (pv 0)) (blkOk_by (N := NPR) (own := [("low", 1), ("high", 2)]) (sc := defScope s__pairs) (by decide +kernel)) (by decide)
      (fun _ _ _ _ _ => pg_name (i := 1) sc__pairs.nd rfl (Or.inl rfl)) (fun _ _ _ _ _ => pts_nil) (fun _ _ _ _ _ => pi_tupK (K := K) (pv 0)) (fun _ _ _ _ _ => pg_name (i := 2) sc__pairs.nd rfl (Or.inl rfl)) (fun _ _ _ _ _ => pts_one (pt_cmpR op_lt (pe_ix (ix_any (K := K)) (pv 1) pe_int (fun _ _ => rfl)) (pe_ix (ix_any (K := K)) (pv 2) pe_int (fun _ _ => rfl)) (nomark _))) (fun _ _ _ _ _ => (pe_tup (pa_cons (pv 1) (pa_cons (pv 2) pa_nil))))))), ?_⟩
    refine ⟨_, rfl, p, rfl, ⟨_, Evl.st_of (S0.ex _ _ hp0)⟩, fun D3 nD3 => ?_⟩
    refine inner (walk_tup (K := K) (xs := y2)) (fun i H' => ∃ (G' : Hp) (ps : List V), Ex G G' ∧ Has G' H' ((D3, .lst ps) :: l) ∧ Ats G' ps (((os.take i).flatMap (pairsAt os)).map dBar)) ⟨G, [], Evl.Ex.refl _, S0.new nD3, .nil⟩ (fun i H' _ p => by
      obtain ⟨G, ps, e, S, _⟩ := p
      exact Evl.st_of (S.ex _ _ (e _ _ hp0))) ?_ ?_
    · rintro i x H7 H8 hi ⟨G1, ps, e, S, hp⟩ ⟨rfl, hx⟩
      obtain ⟨low, hlow, hSlow⟩ := ats_get hy2 hx
      obtain ⟨tl', rfl, htl⟩ := hSlow.sgn
      refine ⟨rfl, _, rfl, p, rfl, ⟨_, Evl.st_of (S.ex _ _ (e _ _ hp0))⟩, inner (walk_tup (K := K) (xs := y2)) (fun j H' => ∃ (G' : Hp) (ps' : List V), Ex G1 G' ∧ Has G' H' ((D3, .lst ps') :: l) ∧ Ats G' ps' (((os.take i).flatMap (pairsAt os) ++ ((os.take j).filter fun high => decide (low.1 < high.1)).map fun high => [low, high]).map dBar)) ⟨G1, ps, Evl.Ex.refl _, S, ?_⟩ (fun j H' _ p => ?_) ?_ ?_⟩
      · show Ats G1 ps (((os.take i).flatMap (pairsAt os) ++ []).map dBar)
        rw [List.append_nil]
        exact hp
      · obtain ⟨G', ps', e', S', _⟩ := p
        exact Evl.st_of (S'.ex _ _ (e' _ _ (e _ _ hp0)))
      · rintro j y H9 H10 hj ⟨G', ps', e', S', hp'⟩ ⟨rfl, hy⟩
        obtain ⟨high, hhigh, hSh⟩ := ats_get hy2 hy
        obtain ⟨th, rfl, hth⟩ := hSh.sgn
        have up : ∀ {b o}, G b = some o → H10 b = some o := fun h => S'.ex _ _ (e' _ _ (e _ _ h))
        have lps : ps'.length ≤ 100 * 100 + 100 := by
          rw [hp'.1, List.length_map, List.length_append, List.length_map]
          have h1 := flat_len (f := pairsAt os) (k := 100) (l := os.take i) fun s _ => Nat.le_trans (pairsAt_len os s) (by omega)
          have h2 := filt_len (fun high : Sgn => decide (low.1 < high.1)) os j
          have h3 : (os.take i).length ≤ 100 := by rw [List.length_take]; omega
          have h4 := Nat.mul_le_mul_right 100 h3
          omega
        refine ⟨rfl, _, rfl, .inr ⟨tl', _, 0, .int low.1, rfl, rfl, Evl.st_of (up htl), rfl, _, rfl, .inr ⟨th, _, 0, .int high.1, rfl, rfl, Evl.st_of (up hth), rfl, _, _, rfl, rfl, _, rfl, ?_⟩⟩⟩
        rw [show decide ((low.1 : Int) < (high.1 : Int)) = decide (low.1 < high.1) by rw [Bool.eq_iff_iff, decide_eq_true_eq, decide_eq_true_eq]; omega]
        cases hq : decide (low.1 < high.1) with
        | true =>
          refine ⟨_, rfl, _, rfl, sz (by show 2 ≤ 100000; decide), fun u nu => ?_⟩
          have S9 := S'.new (o := .tup [.ref tl', .ref th]) nu
          refine ⟨_, S9.get 1 rfl, szl (by omega), _, ps' ++ [.ref u], e'.trans S9.exS, S9.sink.set 0 rfl, ?_⟩
          have e9 : ∀ (X : List Bar) (Y : List Sgn), (X ++ (Y ++ [high]).map fun high => [low, high]).map dBar = (X ++ Y.map fun high => [low, high]).map dBar ++ [dBar [low, high]] := fun X Y => by simp only [List.map_append, List.append_assoc, List.map_cons, List.map_nil]
          rw [filt_yes (f := fun high : Sgn => decide (low.1 < high.1)) hhigh hq, e9]
          exact (hp'.ex S9.exS).snoc (At.mkT upd_same (.cons (((hSlow.ex e).ex e').ex S9.exS) (.cons (((hSh.ex e).ex e').ex S9.exS) .nil)))
        | false =>
          refine ⟨G', ps', e', S', ?_⟩
          rw [filt_no (f := fun high : Sgn => decide (low.1 < high.1)) hhigh hq]
          exact hp'
      · rintro H9 ⟨G', ps', e', S', hp'⟩
        refine ⟨G', ps', e.trans e', S', ?_⟩
        rw [show os.take y2.length = os from List.take_of_length_le (by omega)] at hp'
        rw [take_snoc hlow, List.flatMap_append]
        have : List.flatMap (pairsAt os) [low] = (os.filter fun high => decide (low.1 < high.1)).map fun high => [low, high] := by
          rw [List.flatMap_cons]
          exact List.append_nil _
        rw [this]
        exact hp'
    · rintro H7 ⟨G1, ps, e, S, hp⟩
      rw [List.take_of_length_le (by omega)] at hp
      exact q G1 H7 D3 ps e S hp
/-! clash -/
abbrev NCL : List Str := ["table", "part", "groups", "literal", "group"]
theorem sc_clash : FnScope NCL ["table", "part"] (defScope s_clash) := ⟨rfl, rfl, rfl, by decide +kernel, rfl, by decide +kernel, by decide +kernel⟩
def spClash (C NC : Addr) : Sp := fun vs H Q E => ∃ (G : Hp) (l : List (Addr × HO)) (a : Addr) (n : Nat) (L : Lots) (ms : List Int) (v : V) (b : Bar), vs = [.ref a, v] ∧ Has G H l ∧ TabAt C G a n L ∧ TabOf n ms L ∧ masksOk n ms ∧ 0 < n ∧ n ≤ 6 ∧ At G v (dBar b) ∧ partP n b ∧
  (shutB n ms = false → ∀ H' : Hp, Has G H' l → E (.ref NC) none H') ∧ (shutB n ms = true → Shut n ms → ∀ (G' H' : Hp) (x : V), Ex G G' → Has G' H' l → At G' x (dOpt (dueM ms b)) → Q x H')
theorem lots_ok {n : Nat} {ms : List Int} {L : Lots} (h : TabOf n ms L) (hn : n ≤ 6) : LotsOk L := fun p hp => by
  obtain ⟨m, _, e⟩ := h.1 p hp
  rw [e]
  refine ⟨lot_asc m n, fun z hz => ?_, by have := lot_len m n; omega⟩
  obtain ⟨k, _, _, rfl⟩ := lot_mem.mp hz
  omega
theorem shut_of {n : Nat} {ms : List Int} (h : masksOk n ms) (e : shutB n ms = true) : Shut n ms := by
  refine ⟨h, ?_⟩
  have hl := of_decide_eq_true e
  have hr := reach_ok h
  -- both ascend, the one lies in the other, both have the same length
  have sub : ∀ {xs ys : List Int}, Up xs → Up ys → (∀ x ∈ xs, x ∈ ys) → ys.length = xs.length → ys = xs := fun {xs ys} hx hy hs hl => by
    have back : ∀ y ∈ ys, y ∈ xs := fun y hy' => Classical.byContradiction fun c => by
      have h1 := nodup_lenI (xs := xs) (ys := ys.erase y) (up_nodup hx) fun x hx' => (List.mem_erase_of_ne fun e => c (by rw [← e]; exact hx')).mpr (hs x hx')
      have h2 := List.length_erase_of_mem hy'
      have h3 := List.length_pos_of_mem hy'
      omega
    exact strict_ext (fun a b p q => absurd p (by omega)) hy hx fun z => ⟨back z, hs z⟩
  exact sub h.1 hr.1 (fun x hx => reach_sub h hx) hl
theorem fn_clash {f gp gf fk NC : Addr} {fd gfd fkd : FuncData} (F : Fun K "clash" "clash" s_clash f fd) (z : Z mg) (T : TC K mg C) (PT : TG P w K mg base C gp gf gfd "things" (spThings C)) (O_check_table : Ok P w K mg base 1 "check_table" ["table"] (spCheckTable C)) (O_check_part : Ok P w K mg base 5 "check_part" ["part", "things"] spCheckPart)
    (R : FnOk P w K mg base (L2.CX P w) 10 fk fkd ["table"] (spCheckClosed C NC)) (gR : mg "check_closed" = some (.ref fk)) (kR : PySem.W.keepIn K (.ref fk) = true) (bR : Binds K fkd ["table"] []) (O_can_be : Ok P w K mg base 8 "can_be" ["table", "part"] (spCanBe C)) (O_pairs : Ok P w K mg base 1 "_pairs" ["part"] spPairs) :
    FnOk P w K mg base (L2.CX P w) 11 f fd ["table", "part"] (spClash C NC) := by
  refine F.okX sc_clash (fun vs H Q E h => ?_) (fun cdv A outer s H vs Q E hr h => ?_)
  · obtain ⟨G, l, a, n, L, ms, v, b, rfl, _⟩ := h
    rfl
  · obtain ⟨G, l, a, n, L, ms, v, b, rfl, S, tab, htab, hms, hn, hn6, hv, ⟨lb, bb, ub⟩, qe, q⟩ := h
    obtain ⟨dx, tl, h1, h2, h3⟩ := id tab
    have hins := ins_of bb
    have hasc := upB_asc ub
    have hL := lots_ok htab hn6
    have lL := lots_le htab hms hn hn6
    have are := tabOf_are htab
    refine ⟨_, (pss_cons (ps_expr (pe_o O_check_table (hr.mono (by decide)) (pa_cons (pv 0) pa_nil)))
      (pss_cons (ps_expr (pe_o O_check_part (hr.mono (by decide)) (pa_cons (pv 1) (pa_cons (pe_prop (pv 0) T.cl PT.at_ PT.ok (hr.mono (by decide)) PT.b .nil pass0 rfl) pa_nil))))
      (pss_cons (ps_expr (pe_callS R hr (by rfl) gR kR bR (fun σ => passAt (takes_of rfl rfl rfl rfl) σ) (by exact (pa_cons (pv 0) pa_nil))))
      (pss_cons (ps_if (pt_val (pe_o O_can_be (hr.mono (by decide)) (pa_cons (pv 0) (pa_cons (pv 1) pa_nil)))) (pss_one (ps_ret pe_non)) pss_nil)
      (pss_cons (ps_set (i := 2) sc_clash.nd rfl (Or.inl rfl) (pe_op op_cat (pe_lc (own := [("literal", 3)]) (g := gName 3) rfl sc_clash.nd (pi_tup (pv 1)) (blkOk_by (N := NCL) (own := [("literal", 3)]) (sc := defScope s_clash) (by decide +kernel)) (fun _ _ _ _ _ => pg_name (i := 3) sc_clash.nd rfl (Or.inl rfl)) (fun _ _ _ _ _ => pts_nil) (fun _ _ _ _ _ => (pe_tup (pa_cons (pv 3) pa_nil)))) (pe_o O_pairs (hr.mono (by decide)) (pa_cons (pv 1) pa_nil))))
      (pss_one (ps_ret (pe_ix ix_list (pe_lc (own := [("group", 4)]) (g := gName 4) rfl sc_clash.nd (pi_list (pv 2)) (blkOk_by (N := NCL) (own := [("group", 4)]) (sc := defScope s_clash) (by decide +kernel)) (fun _ _ _ _ _ => pg_name (i := 4) sc_clash.nd rfl (Or.inl rfl)) (fun _ _ _ _ _ => pts_one (pt_not (pt_val (pe_o O_can_be (hr.mono (by decide)) (pa_cons (pv 0) (pa_cons (pv 4) pa_nil)))))) (fun _ _ _ _ _ => (pv 4))) pe_int (fun _ _ => rfl))))))))), ?_⟩
    refine ⟨_, rfl, a, n, L, rfl, tab.ex S.ex, ?_⟩
    refine ⟨_, rfl, _, rfl, a, dx, _, rfl, S.ex _ _ h1, a, n, L, rfl, tab.ex S.ex, v, b, some (n : Int), rfl, hv.ex S.ex, by omega, hins, hasc, fun H1 e1 => ?_⟩
    have S1 := S.go e1
    refine ⟨_, rfl, G, l, a, n, L, ms, rfl, S1, tab, htab, hms, hn, hn6, fun hs H2 S2 => ?_, fun hs H2 S2 => qe hs H2 S2⟩
    have hshut := shut_of hms hs
    have q := q hs hshut
    refine ⟨_, rfl, _, rfl, a, n, L, v, b, rfl, tab.ex S2.ex, hL, by omega, hv.ex S2.ex, by omega, hins, hasc, fun H3 e3 => ⟨_, rfl, ?_⟩⟩
    have S3 := S2.go e3
    rw [can_eq are bb]
    cases hc : canM ms b with
    | true =>
      have := q G H3 .non (Evl.Ex.refl _) S3
      rw [due_none_of_can hc] at this
      exact this .non
    | false =>
      obtain ⟨g, hg⟩ : ∃ g, dueM ms b = some g := by
        cases e : dueM ms b with
        | none =>
          have := can_of_due hshut bb ub e
          rw [hc] at this
          cases this
        | some g => exact ⟨g, rfl⟩
      rw [hg] at q
      obtain ⟨p, ys, rfl, hp, hy⟩ := hv.bar
      have ly : ys.length = b.length := by rw [hy.1, List.length_map]
      refine ⟨_, rfl, p, rfl, ⟨_, Evl.st_of (S3.ex _ _ hp)⟩, fun D1 nD1 => ?_⟩
      refine lc_tup (K := K) (xs := ys) (fun i H' => ∃ (G' : Hp) (zs : List V), Ex G G' ∧ Has G' H' ((D1, .lst zs) :: l) ∧ Ats G' zs (((b.take i).map fun s => [s]).map dBar)) ⟨G, [], Evl.Ex.refl _, S3.new nD1, .nil⟩ (fun i H' _ p => by
        obtain ⟨G', zs, e, S', _⟩ := p
        exact Evl.st_of (S'.ex _ _ (e _ _ hp))) ?_ ?_
      · rintro i x H4 hi ⟨G4, zs, e4, S4, a4⟩
        obtain ⟨s, hs', hS⟩ := ats_get hy hi
        have lz : zs.length ≤ 100 := by
          rw [a4.1, List.length_map, List.length_map, List.length_take]
          omega
        refine ⟨rfl, _, rfl, sz (by show 1 ≤ 100000; decide), fun u nu => ?_⟩
        have S5 := S4.new (o := .tup [x]) nu
        refine ⟨zs, S5.get 1 rfl, szl (by omega), _, zs ++ [.ref u], e4.trans S5.exS, S5.sink.set 0 rfl, ?_⟩
        rw [take_snoc hs', List.map_append, List.map_append]
        exact (a4.ex S5.exS).snoc (At.mkT upd_same (.cons ((hS.ex e4).ex S5.exS) .nil))
      · rintro H4 ⟨G4, zs, e4, S4, a4⟩
        rw [List.take_of_length_le (by omega)] at a4
        have lz : zs.length = b.length := by rw [a4.1, List.length_map, List.length_map]
        refine ⟨_, rfl, G4, (D1, .lst zs) :: l, _, b, rfl, S4, hv.ex e4, lb, fun G5 H5 t ws e5 S5 a5 => ?_⟩
        have lw : ws.length ≤ 100 * 100 := by rw [a5.1, List.length_map]; exact pairsB_len lb
        refine ⟨D1, t, zs, ws, rfl, rfl, S5.get 1 rfl, S5.get 0 rfl, sz (by omega), fun p6 np6 => ?_⟩
        have S6' := S5.new (o := .lst (zs ++ ws)) np6
        have a6' : Ats G5 (zs ++ ws) ((groupsB b).map dBar) := by
          unfold groupsB
          rw [List.map_append]
          exact (a4.ex e5).append a5
        have S6 := S6'.drop2.drop2.sink
        have e6 := e4.trans (e5.trans S6'.exS)
        have a6 := a6'.ex S6'.exS
        have hp6 : (upd G5 p6 (.lst (zs ++ ws))) p6 = some (.lst (zs ++ ws)) := upd_same
        generalize upd G5 p6 (.lst (zs ++ ws)) = G6 at S6 e6 a6 hp6
        generalize upd H5 p6 (.lst (zs ++ ws)) = H6 at S6
        have lzw : (zs ++ ws).length ≤ 100 + 100 * 100 := by rw [List.length_append]; omega
        generalize zs ++ ws = us at a6 hp6 lzw
        have lu : us.length = (groupsB b).length := by rw [a6.1, List.length_map]
        refine ⟨_, rfl, p6, rfl, ⟨_, Evl.sq_of (S6.ex _ _ hp6)⟩, fun D2 nD2 => ?_⟩
        refine lc_list (K := K) (a := p6) (xs := us) (fun i H' => ∃ rs : List V, Has G6 H' ((D2, .lst rs) :: l) ∧ Ats G6 rs ((((groupsB b).take i).filter fun g => !canM ms g).map dBar)) ⟨[], S6.new nD2, .nil⟩ (fun i H' _ p => by
          obtain ⟨rs, S', _⟩ := p
          exact Evl.sq_of (S'.ex _ _ hp6)) ?_ ?_
        · rintro i x H7 hi ⟨rs, S7, a7⟩
          obtain ⟨c, hc', hC⟩ := ats_get a6 hi
          obtain ⟨g1, g2, g3⟩ := group_sub (List.mem_of_getElem? hc')
          have cb : ∀ s ∈ c, s.1 < n := fun s hs' => bb s (g1 s hs')
          have lr : rs.length ≤ 100 + 100 * 100 := by
            rw [a7.1, List.length_map]
            have := filt_len (fun g => !canM ms g) (groupsB b) i
            omega
          refine ⟨rfl, _, rfl, _, rfl, a, n, L, x, c, rfl, tab.ex (e6.trans S7.ex), hL, by omega, hC.ex S7.ex, by omega, ins_of cb, upB_asc g3, fun H8 e8 => ⟨_, rfl, ?_⟩⟩
          have S8 := S7.go e8
          rw [can_eq are cb]
          cases hq : canM ms c with
          | true =>
            refine ⟨rs, S8, ?_⟩
            rw [filt_no (f := fun g => !canM ms g) hc' (by rw [hq]; rfl)]
            exact a7
          | false =>
            refine ⟨_, rfl, rs, S8.get 0 rfl, szl (by omega), rs ++ [x], S8.set 0 rfl, ?_⟩
            rw [filt_yes (f := fun g => !canM ms g) hc' (by rw [hq]; rfl), List.map_append]
            exact a7.snoc hC
        · rintro H7 ⟨rs, S7, a7⟩
          rw [List.take_of_length_le (by omega)] at a7
          unfold dueM at hg
          rw [find_filter] at hg
          have hd : (((groupsB b).filter fun g => !canM ms g).map dBar)[0]? = some (dBar g) := by
            rw [List.getElem?_map, hg]
            rfl
          obtain ⟨x, hx, hX⟩ := a7.at_ hd
          refine ⟨D2, rs, 0, x, rfl, rfl, Evl.sq_of (S7.get 0 rfl), atI_nat (j := 0) hx, ?_⟩
          exact q G6 H7 x e6 S7.tail hX
end
end TW
set_option Elab.async false
set_option linter.all false
set_option maxRecDepth 100000
set_option maxHeartbeats 4000000
namespace TW
open PySem PySem.Spec PyProof.Rows L2
/-! masks by two bits -/
theorem bor (a b : Nat) : Builtin.bitOr (a : Int) (b : Int) = ((a ||| b : Nat) : Int) := by
  unfold Builtin.bitOr
  rw [bitAnd_nn (by unfold Builtin.bitNot; omega) (by unfold Builtin.bitNot; omega)]
  have e : ∀ x : Int, Builtin.bitNot (Builtin.bitNot x) = x := fun x => by unfold Builtin.bitNot; omega
  rw [e, e, e, Int.toNat_natCast, Int.toNat_natCast]
theorem bit_test (x : Nat) (k : Nat) : bitB (x : Int) k = x.testBit k := by
  unfold bitB
  rw [Nat.testBit_eq_decide_div_mod_eq, Bool.eq_iff_iff, decide_eq_true_eq, decide_eq_true_eq]
  have : ((x : Int) / 2 ^ k % 2) = ((x / 2 ^ k % 2 : Nat) : Int) := by push_cast; rfl
  rw [this]
  omega
def prI (a b : Nat) : Int := Builtin.bitOr (1 * 2 ^ a) (1 * 2 ^ b)
theorem prI_eq (a b : Nat) : prI a b = ((2 ^ a ||| 2 ^ b : Nat) : Int) := by
  unfold prI
  rw [Int.one_mul, Int.one_mul, show (2 : Int) ^ a = ((2 ^ a : Nat) : Int) by push_cast; rfl, show (2 : Int) ^ b = ((2 ^ b : Nat) : Int) by push_cast; rfl, bor]
theorem key_iff {x y : Int} (hx : 0 ≤ x) (hy : 0 ≤ y) (a b : Nat) : Builtin.bitAnd x (prI a b) = Builtin.bitAnd y (prI a b) ↔ bitB x a = bitB y a ∧ bitB x b = bitB y b := by
  obtain ⟨x, rfl⟩ := Int.eq_ofNat_of_zero_le hx
  obtain ⟨y, rfl⟩ := Int.eq_ofNat_of_zero_le hy
  rw [prI_eq, bitAnd_pp (by omega) (by omega), bitAnd_pp (by omega) (by omega), Int.toNat_natCast, Int.toNat_natCast, Int.toNat_natCast, bit_test, bit_test, bit_test, bit_test]
  have tb : ∀ z k : Nat, (z &&& (2 ^ a ||| 2 ^ b)).testBit k = (z.testBit k && (decide (a = k) || decide (b = k))) := fun z k => by
    rw [Nat.testBit_and, Nat.testBit_or, Nat.testBit_two_pow, Nat.testBit_two_pow]
  constructor
  · intro h
    have h' : x &&& (2 ^ a ||| 2 ^ b) = y &&& (2 ^ a ||| 2 ^ b) := by exact_mod_cast h
    have ha := congrArg (fun z : Nat => z.testBit a) h'
    have hb := congrArg (fun z : Nat => z.testBit b) h'
    simp only [tb] at ha hb
    simp at ha hb
    exact ⟨ha, hb⟩
  · rintro ⟨h1, h2⟩
    have : x &&& (2 ^ a ||| 2 ^ b) = y &&& (2 ^ a ||| 2 ^ b) := Nat.eq_of_testBit_eq fun k => by
      rw [tb, tb]
      by_cases e1 : a = k
      · subst e1
        rw [h1]
      · by_cases e2 : b = k
        · subst e2
          rw [h2]
        · rw [decide_eq_false e1, decide_eq_false e2, Bool.or_false, Bool.and_false, Bool.and_false]
    rw [this]
def fours (a b : Nat) : List Int := [((0 ||| 0 : Nat) : Int), ((0 ||| 2 ^ b : Nat) : Int), ((2 ^ a ||| 0 : Nat) : Int), ((2 ^ a ||| 2 ^ b : Nat) : Int)]
theorem key_four {x : Int} (hx : 0 ≤ x) (a b : Nat) : Builtin.bitAnd x (prI a b) ∈ fours a b := by
  obtain ⟨x, rfl⟩ := Int.eq_ofNat_of_zero_le hx
  rw [prI_eq, bitAnd_pp (by omega) (by omega), Int.toNat_natCast, Int.toNat_natCast]
  have e : x &&& (2 ^ a ||| 2 ^ b) = (if x.testBit a = true then 2 ^ a else 0) ||| (if x.testBit b = true then 2 ^ b else 0) := Nat.eq_of_testBit_eq fun k => by
    rw [Nat.testBit_and, Nat.testBit_or, Nat.testBit_or, Nat.testBit_two_pow, Nat.testBit_two_pow]
    have one : ∀ c : Nat, (if x.testBit c = true then 2 ^ c else 0).testBit k = (x.testBit k && decide (c = k)) := fun c => by
      by_cases e : c = k
      · subst e
        cases h : x.testBit c with
        | true => rw [if_pos rfl, Nat.testBit_two_pow]; simp
        | false => rw [if_neg (by decide), Nat.zero_testBit]; simp
      · rw [decide_eq_false e, Bool.and_false]
        split
        · rw [Nat.testBit_two_pow, decide_eq_false e]
        · exact Nat.zero_testBit k
    rw [one, one]
    cases x.testBit k <;> simp
  rw [e]
  unfold fours
  cases x.testBit a <;> cases x.testBit b <;> simp
section
variable {X : Cx}
def rSortedSetB (w : World) : List V → Hp → VK → Prop := fun vs H Q => ∃ (a : Addr) (S : Int → Bool) (n : Nat) (B : List Int), vs = [V.ref a] ∧ H a = some (SetO w a S n) ∧ (∀ k, S k = true → k ∈ B) ∧ B.length < 64 ∧
  ∀ (ns : List Int) (p : Addr), ns.Pairwise (· < ·) → (∀ k : Int, k ∈ ns ↔ S k = true) → H p = none → Q (.ref p) (upd H p (.lst (ns.map V.int)))
theorem cr_sortedSetB {w : World} (hc : X.calm = true) (hw : X.w = w := by rfl) : CallR X (.builtin "sorted") (rSortedSetB w) := by
  subst hw
  intro pins s σ H vs us Q I r h
  obtain ⟨a, S, n, B, rfl, ha, hB, lB, q⟩ := h
  have hn : n ≤ B.length := by
    obtain ⟨o, es, ep, t, _, _, _, _, nd, hm, _, _, hn, _⟩ := setO_get I ha
    have := nodup_lenI nd fun x hx => hB x ((hm x).mpr hx)
    rw [List.length_map, Array.length_toList, hn] at this
    exact this
  exact cr_sortedSet hc pins s σ H [.ref a] us Q I r ⟨a, S, n, rfl, ha, by omega, fun ns p h1 h2 _ h4 => q ns p h1 h2 h4⟩
end
def rowsI (n : Nat) (ms : List Int) (i : Nat) : List Int := (rangeI (2 ^ n)).filter fun m => (List.range i).all fun a => (List.range n).all fun b => decide (b < a) || agr ms a b m
def rowsJ (n : Nat) (ms : List Int) (i j : Nat) : List Int := (rowsI n ms i).filter fun m => (List.range j).all fun d => agr ms i (i + d) m
theorem rowsI_end (n : Nat) (ms : List Int) : rowsI n ms n = reachM n ms := rfl
theorem rowsI_zero (n : Nat) (ms : List Int) : rowsI n ms 0 = rangeI (2 ^ n) := List.filter_eq_self.mpr fun _ _ => rfl
theorem rowsJ_zero (n : Nat) (ms : List Int) (i : Nat) : rowsJ n ms i 0 = rowsI n ms i := List.filter_eq_self.mpr fun _ _ => rfl
theorem rowsJ_up (n : Nat) (ms : List Int) (i j : Nat) : (rowsJ n ms i j).filter (fun m => agr ms i (i + j) m) = rowsJ n ms i (j + 1) := by
  unfold rowsJ
  rw [List.filter_filter]
  refine filt_congr fun m _ => ?_
  rw [List.range_succ, List.all_append, Bool.and_comm]
  show _ = (_ && (agr ms i (i + j) m && true))
  rw [Bool.and_true]
theorem rowsJ_end {n i : Nat} (ms : List Int) (h : i < n) : rowsJ n ms i (n - i) = rowsI n ms (i + 1) := by
  unfold rowsJ rowsI
  rw [List.filter_filter]
  refine filt_congr fun m _ => ?_
  rw [List.range_succ, List.all_append, Bool.and_comm]
  show _ = (_ && (((List.range n).all fun b => decide (b < i) || agr ms i b m) && true))
  rw [Bool.and_true]
  congr 1
  rw [Bool.eq_iff_iff, List.all_eq_true, List.all_eq_true]
  constructor
  · intro q b hb
    have hb' := List.mem_range.mp hb
    rw [Bool.or_eq_true, decide_eq_true_eq]
    rcases Nat.lt_or_ge b i with c | c
    · exact .inl c
    · refine .inr ?_
      have := q (b - i) (List.mem_range.mpr (by omega))
      rw [show i + (b - i) = b by omega] at this
      exact this
  · intro q d hd
    have hd' := List.mem_range.mp hd
    have := q (i + d) (List.mem_range.mpr (by omega))
    rw [Bool.or_eq_true, decide_eq_true_eq] at this
    rcases this with c | c
    · omega
    · exact c
theorem rows_len {n : Nat} {ms : List Int} {i j : Nat} (hn : n ≤ 6) : (rowsJ n ms i j).length ≤ 64 := by
  unfold rowsJ rowsI
  refine Nat.le_trans (List.length_filter_le _ _) (Nat.le_trans (List.length_filter_le _ _) ?_)
  unfold rangeI
  rw [List.length_map, List.length_range]
  exact lotsL_small (Nat.le_refl n) hn
theorem rows_pos {n : Nat} {ms : List Int} {i j : Nat} {m : Int} (h : m ∈ rowsJ n ms i j) : 0 ≤ m := (rangeI_mem.mp (List.mem_filter.mp (List.mem_filter.mp h).1).1).1
theorem rgV_eq (b : Nat) : rgV 0 (b : Int) = (rangeI b).map V.int := by
  unfold rgV rangeI
  rw [List.map_map, show ((b : Int) - 0).toNat = b by omega]
  refine List.map_congr_left fun i _ => ?_
  show V.int (0 + (i : Int)) = V.int (i : Int)
  rw [Int.zero_add]
/-! pairs in their sequence -/
def rowG (b : Bar) (i : Nat) : List Bar := match b[i]? with
  | some x => (b.drop (i + 1)).map fun y => [x, y]
  | none => []
theorem pairs_suf : ∀ (suf pre b : Bar), b = pre ++ suf → UpB b → suf.flatMap (pairsAt b) = tl (fun x r => r.map fun y => [x, y]) suf
  | [], _, _, _, _ => rfl
  | x :: r, pre, b, e, hb => by
    have ih := pairs_suf r (pre ++ [x]) b (by rw [e, List.append_assoc]; rfl) hb
    have hb' := hb
    unfold UpB at hb'
    rw [e, List.pairwise_append, List.pairwise_cons] at hb'
    obtain ⟨hp, ⟨hx, hr⟩, hc⟩ := hb'
    rw [List.flatMap_cons, ih]
    show _ = (r.map fun y => [x, y]) ++ tl _ r
    congr 1
    unfold pairsAt
    congr 1
    rw [e, List.filter_append, List.filter_cons, if_neg (by rw [decide_eq_true_eq]; omega), filter_none (f := fun high : Sgn => decide (x.1 < high.1)) (l := pre) fun y hy => decide_eq_false (by have := hc y hy x List.mem_cons_self; omega), List.nil_append]
    exact List.filter_eq_self.mpr fun y hy => decide_eq_true (hx y hy)
theorem pairsB_rows {b : Bar} (hb : UpB b) : pairsB b = (List.range b.length).flatMap (rowG b) := by
  unfold pairsB
  rw [pairs_suf b [] b rfl hb, ← tl_range]
  refine flat_congr fun i _ => ?_
  unfold rowG
  cases b[i]? <;> rfl
theorem find_at {α : Type} {p : α → Bool} {x : α} : ∀ {pre post : List α}, (∀ g ∈ pre, p g = false) → p x = true → (pre ++ x :: post).find? p = some x
  | [], _, _, h => by rw [List.nil_append, List.find?_cons, h]
  | y :: pre, post, hp, h => by
    rw [List.cons_append, List.find?_cons, hp y List.mem_cons_self]
    exact find_at (fun g hg => hp g (List.mem_cons_of_mem _ hg)) h
theorem split_at {α : Type} {l : List α} {i : Nat} {x : α} (h : l[i]? = some x) : l = l.take i ++ x :: l.drop (i + 1) := by
  obtain ⟨h1, h2⟩ := List.getElem?_eq_some_iff.mp h
  rw [← h2, List.getElem_cons_drop, List.take_append_drop]
theorem range_split {i n : Nat} (h : i < n) : List.range n = List.range i ++ i :: (List.range (n - i - 1)).map (fun k => i + 1 + k) := by
  have e : n = i + (1 + (n - i - 1)) := by omega
  conv => lhs; rw [e, List.range_add]
  congr 1
  rw [Nat.add_comm 1, List.range_succ_eq_map, List.map_cons, List.map_map, Nat.add_zero]
  congr 1
  refine List.map_congr_left fun k _ => ?_
  show i + (k + 1) = i + 1 + k
  omega
theorem due_one {ms : List Int} {b : Bar} {i : Nat} {s : Sgn} (hi : b[i]? = some s) (hp : ∀ t ∈ b.take i, canM ms [t] = true) (h : canM ms [s] = false) : dueM ms b = some [s] := by
  unfold dueM groupsB
  have e : b.map (fun s => [s]) = ((b.take i).map fun s => [s]) ++ [s] :: ((b.drop (i + 1)).map fun s => [s]) := by
    conv => lhs; rw [split_at hi]
    rw [List.map_append, List.map_cons]
  rw [e, List.append_assoc, List.cons_append]
  refine find_at (fun g hg => ?_) (by rw [h]; rfl)
  obtain ⟨t, ht, rfl⟩ := List.mem_map.mp hg
  rw [hp t ht]
  rfl
theorem due_two {ms : List Int} {b : Bar} (ub : UpB b) {i j : Nat} {s t : Sgn} (hi : b[i]? = some s) (hj : (b.drop (i + 1))[j]? = some t) (h1 : ∀ t ∈ b, canM ms [t] = true) (h2 : ∀ g ∈ (List.range i).flatMap (rowG b), canM ms g = true) (h3 : ∀ u ∈ (b.drop (i + 1)).take j, canM ms [s, u] = true) (h : canM ms [s, t] = false) : dueM ms b = some [s, t] := by
  unfold dueM groupsB
  rw [pairsB_rows ub, range_split (List.getElem?_eq_some_iff.mp hi).1, List.flatMap_append, List.flatMap_cons]
  have er : rowG b i = (((b.drop (i + 1)).take j).map fun y => [s, y]) ++ [s, t] :: ((((b.drop (i + 1)).drop (j + 1))).map fun y => [s, y]) := by
    unfold rowG
    rw [hi]
    show (b.drop (i + 1)).map _ = _
    conv => lhs; rw [split_at hj]
    rw [List.map_append, List.map_cons]
  rw [er, List.append_assoc, List.cons_append, ← List.append_assoc, ← List.append_assoc]
  refine find_at (fun g hg => ?_) (by rw [h]; rfl)
  rcases List.mem_append.mp hg with hg | hg
  · rcases List.mem_append.mp hg with hg | hg
    · obtain ⟨u, hu, rfl⟩ := List.mem_map.mp hg
      rw [h1 u hu]
      rfl
    · rw [h2 g hg]
      rfl
  · obtain ⟨u, hu, rfl⟩ := List.mem_map.mp hg
    rw [h3 u hu]
    rfl
theorem due_no {ms : List Int} {b : Bar} (ub : UpB b) (h1 : ∀ t ∈ b, canM ms [t] = true) (h2 : ∀ g ∈ (List.range b.length).flatMap (rowG b), canM ms g = true) : dueM ms b = none := by
  unfold dueM groupsB
  rw [pairsB_rows ub, List.find?_eq_none]
  intro g hg
  rcases List.mem_append.mp hg with hg | hg
  · obtain ⟨u, hu, rfl⟩ := List.mem_map.mp hg
    rw [h1 u hu]
    decide
  · rw [h2 g hg]
    decide
theorem fit_nil (ms : List Int) (g : Bar) : decide ((ms.filter fun m => g.all (met m)) = []) = !canM ms g := by
  unfold canM
  rw [Bool.eq_iff_iff, decide_eq_true_eq, Bool.not_eq_true', List.any_eq_false, List.filter_eq_nil_iff]
section
variable {P : Program} {w : World} {K : PySem.W.Frag} {mg : Str → Option Value} {base : Heap} {C N : Addr}
/-! _law_reached -/
abbrev NRE : List Str := ["masks", "wide", "row", "one", "two", "pair", "seen", "held", "mask"]
theorem sc_law_reached : FnScope NRE ["masks", "wide"] (defScope s__law_reached) := ⟨rfl, rfl, rfl, by decide +kernel, rfl, by decide +kernel, by decide +kernel⟩
def spReached : Sp := fun vs H Q _ => ∃ (G : Hp) (l : List (Addr × HO)) (a : Addr) (n : Nat) (ms : List Int), vs = [.ref a, .int n] ∧ Has G H l ∧ G a = some (.lst (ms.map V.int)) ∧ masksOk n ms ∧ 0 < n ∧ n ≤ 6 ∧
  ∀ (H' : Hp) (t : Addr), Has G H' ((t, .lst ((reachM n ms).map V.int)) :: l) → Q (.ref t) H'
theorem ok_reached (D : Dfn K mg "_law_reached" s__law_reached ["masks", "wide"]) (z : Z mg) : Ok P w K mg base 1 "_law_reached" ["masks", "wide"] spReached := D.ok fun f fd F => by
  refine F.ok sc_law_reached (fun vs H Q E h => ?_) (fun cdv A outer s H vs Q E hr h => ?_)
  · obtain ⟨G, l, a, n, ms, rfl, _⟩ := h
    rfl
  · obtain ⟨G, l, a, n, ms, rfl, S, ha, hms, hn, hn6, q⟩ := h
    have lms := masks_len hn hn6 hms
    refine ⟨_, (pss_cons (ps_set (i := 2) sc_law_reached.nd rfl (Or.inl rfl) (pe_listRg rfl (by rfl) z.list (prg_1 (by rfl) z.range (pe_op op_shlN pe_int (pv 1)))))
      (pss_cons (ps_for PassesOwn.never rfl (pi_range1 (by rfl) z.range (pa_cons (pv 1) pa_nil)) (pg_name (i := 3) sc_law_reached.nd rfl (Or.inl rfl))
      (pss_one (ps_for PassesOwn.never rfl (pi_range2 (by rfl) z.range (pa_cons (pv 3) (pa_cons (pv 1) pa_nil))) (pg_name (i := 4) sc_law_reached.nd rfl (Or.inl rfl))
      (pss_cons (ps_set (i := 5) sc_law_reached.nd rfl (Or.inr rfl) (pe_op op_or (pe_op op_shlN pe_int (pv 3)) (pe_op op_shlN pe_int (pv 4))))
      (pss_cons (ps_set (i := 6) sc_law_reached.nd rfl (Or.inr rfl) (pe_callB (cr_sortedSetB (w := w) rfl) (by rfl) z.sorted (by decide +kernel) (pa_cons (pe_callTy (cr_setK (K := K) (w := w) rfl) (by rfl) z.set (by decide +kernel) (pa_cons (pe_lc (own := [("held", 7)]) (g := gName 7) rfl sc_law_reached.nd (pi_list (pv 0)) (blkOk_by (N := NRE) (own := [("held", 7)]) (sc := defScope s__law_reached) (by decide +kernel)) (fun _ _ _ _ _ => pg_name (i := 7) sc_law_reached.nd rfl (Or.inl rfl)) (fun _ _ _ _ _ => pts_nil) (fun _ _ _ _ _ => (pe_op op_and (pv 7) (pv 5)))) pa_nil)) pa_nil)))
      (pss_one (ps_setLc (i := 2) (own := [("mask", 8)]) (g := gName 8) rfl sc_law_reached.nd rfl rfl (sw_true rfl rfl rfl (by decide +kernel)) (pi_list (pv 2)) (blkOk_by (N := NRE) (own := [("mask", 8)]) (sc := defScope s__law_reached) (by decide +kernel)) (fun _ _ _ _ _ => pg_name (i := 8) sc_law_reached.nd rfl (Or.inl rfl)) (fun _ _ _ _ _ => pts_one (pt_cmpR (op_inK (K := K)) (pe_op op_and (pv 8) (pv 5)) (pv 6) (by rfl))) (fun _ _ _ _ _ => (pv 8)))))))))
      (pss_one (ps_ret (pv 2))))), ?_⟩
    obtain ⟨b, hb1, hb2, hb0, hb64⟩ := pow_small hn hn6
    have shl : ∀ k, k < n → CShl 1 (k : Int) := fun k hk => shl_ok (n := k) (by omega)
    have bm : b = 2 ^ n := by
      have : ((b : Nat) : Int) = ((2 ^ n : Nat) : Int) := by rw [← hb1, Int.one_mul]; push_cast; rfl
      omega
    refine ⟨_, rfl, _, n, rfl, rfl, shl_ok hn6, _, rfl, ?_⟩
    rw [hb1]
    refine ⟨RgOk.of_le (by omega) (by omega) (by omega) (by omega), fun t0 nt0 => ?_⟩
    rw [rgV_eq, bm]
    have S1 := S.new (o := .lst ((rangeI (2 ^ n)).map V.int)) nt0
    generalize upd H t0 (.lst ((rangeI (2 ^ n)).map V.int)) = H1 at S1
    refine ⟨_, rfl, n, rfl, by omega, by omega, ?_⟩
    rw [show ((n : Nat) : Int).toNat = n by omega]
    refine for_range (lo := 0) (n := n) (fun i σ H' => ∃ (t : Addr) (v3 v4 v5 v6 v7 v8 : Option V), σ = [some (.ref a), some (.int n), some (.ref t), v3, v4, v5, v6, v7, v8] ∧ Has G H' ((t, .lst ((rowsI n ms i).map V.int)) :: l)) ⟨t0, none, none, none, none, none, none, rfl, by rw [rowsI_zero]; exact S1⟩ ?_ ?_
    · rintro i σ H2 hi ⟨t, v3, v4, v5, v6, v7, v8, rfl, S2⟩
      rw [Int.zero_add]
      refine ⟨_, rfl, _, rfl, _, _, rfl, ⟨by omega, by omega, by omega, by omega⟩, ?_⟩
      rw [show ((n : Int) - (i : Int)).toNat = n - i by omega]
      refine for_range (lo := (i : Int)) (n := n - i) (fun j σ H' => ∃ (t : Addr) (v4 v5 v6 v7 v8 : Option V), σ = [some (.ref a), some (.int n), some (.ref t), some (.int i), v4, v5, v6, v7, v8] ∧ Has G H' ((t, .lst ((rowsJ n ms i j).map V.int)) :: l)) ⟨t, v4, v5, v6, v7, v8, rfl, by rw [rowsJ_zero]; exact S2⟩ ?_ ?_
      · rintro j σ H3 hj ⟨t, v4, v5, v6, v7, v8, rfl, S3⟩
        rw [show (i : Int) + (j : Int) = ((i + j : Nat) : Int) by omega]
        refine ⟨_, rfl, _, i, rfl, rfl, shl i hi, _, rfl, _, i + j, rfl, rfl, shl (i + j) (by omega), _, _, rfl, rfl, ?_⟩
        have epr : Builtin.bitOr (1 * 2 ^ i) (1 * 2 ^ (i + j)) = prI i (i + j) := rfl
        -- seen
        refine ⟨_, rfl, a, rfl, ⟨_, Evl.sq_of (S3.ex _ _ ha)⟩, fun D nD => ?_⟩
        refine lc_list (K := K) (a := a) (xs := ms.map V.int) (fun k H' => Has G H' ((D, .lst ((((ms.take k).map fun h => Builtin.bitAnd h (prI i (i + j)))).map V.int)) :: (t, .lst ((rowsJ n ms i j).map V.int)) :: l)) (S3.new nD) (fun k H' _ S => Evl.sq_of (S.ex _ _ ha)) ?_ ?_
        · rintro k x H4 hk S4
          obtain ⟨m, hm, rfl⟩ := map_get hk
          refine ⟨rfl, _, rfl, _, rfl, _, _, rfl, rfl, _, S4.get 0 rfl, szl (by rw [List.length_map, List.length_map, List.length_take]; omega), ?_⟩
          rw [take_snoc hm, List.map_append, List.map_append]
          exact S4.set 0 rfl
        · rintro H4 S4
          rw [List.length_map, List.take_length] at S4
          obtain ⟨KY, hKY⟩ : ∃ KY, KY = ms.map fun h => Builtin.bitAnd h (prI i (i + j)) := ⟨_, rfl⟩
          rw [← hKY] at S4
          have lKY : KY.length ≤ 64 := by rw [hKY, List.length_map]; exact lms
          refine ⟨D, KY, rfl, Evl.sq_of (S4.get 0 rfl), by omega, fun e c ne hc => ?_⟩
          have S5 := S4.new (o := SetO w e (fun x => decide (x ∈ KY)) c) ne
          generalize upd H4 e (SetO w e (fun x => decide (x ∈ KY)) c) = H5 at S5
          refine ⟨e, _, c, fours i (i + j), rfl, S5.get 0 rfl, fun k hk => ?_, by show 4 < 64; decide, fun ns u hup hmem nu => ?_⟩
          · have hk' : k ∈ KY := of_decide_eq_true hk
            rw [hKY] at hk'
            obtain ⟨h, hh, rfl⟩ := List.mem_map.mp hk'
            exact key_four (hms.2.2 h hh).1 _ _
          have S6 := (S5.new (o := .lst (ns.map V.int)) nu).drop2.drop2
          generalize upd H5 u (.lst (ns.map V.int)) = H6 at S6
          have hag : ∀ m, 0 ≤ m → decide (Builtin.bitAnd m (prI i (i + j)) ∈ ns) = agr ms i (i + j) m := fun m hm0 => by
            rw [Bool.eq_iff_iff, decide_eq_true_eq, agr_iff, hmem, decide_eq_true_eq, hKY, List.mem_map]
            constructor
            · rintro ⟨h, hh, e⟩
              exact ⟨h, hh, (key_iff (hms.2.2 h hh).1 hm0 _ _).mp e⟩
            · rintro ⟨h, hh, e⟩
              exact ⟨h, hh, (key_iff (hms.2.2 h hh).1 hm0 _ _).mpr e⟩
          have lR := rows_len (ms := ms) (i := i) (j := j) hn6
          refine ⟨_, rfl, t, rfl, ⟨_, Evl.sq_of (S6.get 1 rfl)⟩, fun D2 nD2 => ?_⟩
          refine lc_list (K := K) (a := t) (xs := (rowsJ n ms i j).map V.int) (fun k H' => Has G H' ((D2, .lst ((((rowsJ n ms i j).take k).filter fun m => agr ms i (i + j) m).map V.int)) :: (u, .lst (ns.map V.int)) :: (t, .lst ((rowsJ n ms i j).map V.int)) :: l)) (S6.new nD2) (fun k H' _ S => Evl.sq_of (S.get 2 rfl)) ?_ ?_
          · rintro k x H7 hk S7
            obtain ⟨m, hm, rfl⟩ := map_get hk
            have hm0 := rows_pos (List.mem_of_getElem? hm)
            refine ⟨rfl, _, rfl, _, rfl, _, _, rfl, rfl, _, rfl, u, ns.map V.int, rfl, .inl (Evl.sq_of (S7.get 1 rfl)), rfl, flat_ints ns, _, rfl, ?_⟩
            rw [inV_int]
            have e := hag m hm0
            have lk := filt_len (fun m => agr ms i (i + j) m) (rowsJ n ms i j) k
            cases hq : agr ms i (i + j) m with
            | true =>
              rw [hq] at e
              rw [show decide (Builtin.bitAnd m (Builtin.bitOr (1 * 2 ^ i) (1 * 2 ^ (i + j))) ∈ ns) = true from e]
              refine ⟨_, rfl, _, S7.get 0 rfl, szl (by rw [List.length_map]; omega), ?_⟩
              rw [filt_yes (f := fun m => agr ms i (i + j) m) hm hq, List.map_append]
              exact S7.set 0 rfl
            | false =>
              rw [hq] at e
              rw [show decide (Builtin.bitAnd m (Builtin.bitOr (1 * 2 ^ i) (1 * 2 ^ (i + j))) ∈ ns) = false from e]
              show Has G H7 _
              rw [filt_no (f := fun m => agr ms i (i + j) m) hm hq]
              exact S7
          · rintro H7 S7
            rw [List.length_map, List.take_length, rowsJ_up] at S7
            exact ⟨D2, _, _, _, _, _, rfl, S7.drop2.drop2⟩
      · rintro σ H3 ⟨t, v4, v5, v6, v7, v8, rfl, S3⟩
        rw [rowsJ_end ms hi] at S3
        exact ⟨t, _, _, _, _, _, _, rfl, S3⟩
    · rintro σ H2 ⟨t, v3, v4, v5, v6, v7, v8, rfl, S2⟩
      rw [rowsI_end] at S2
      exact ⟨_, rfl, q H2 t S2⟩
/-! _law_clash_due -/
abbrev NCD : List Str := ["masks", "told", "sign", "one", "two"]
def spClashDue : Sp := fun vs H Q _ => ∃ (G : Hp) (l : List (Addr × HO)) (a : Addr) (ms : List Int) (v : V) (b : Bar), vs = [.ref a, v] ∧ Has G H l ∧ G a = some (.lst (ms.map V.int)) ∧ ms.length ≤ 1000 ∧ At G v (dBar b) ∧ b.length ≤ 100 ∧ UpB b ∧
  ∀ (G' H' : Hp) (x : V), Ex G G' → Has G' H' l → At G' x (dOpt (dueM ms b)) → Q x H'
/-! _law_not_closed -/
abbrev NNC : List Str := ["book", "told", "refused"]
def spNotClosed (C : Addr) : Sp := fun vs H Q _ => ∃ (G : Hp) (l : List (Addr × HO)) (a : Addr) (n : Nat) (L : Lots) (ms : List Int) (v : V) (b : Bar), vs = [.ref a, v] ∧ Has G H l ∧ TabAt C G a n L ∧ TabOf n ms L ∧ masksOk n ms ∧ 0 < n ∧ n ≤ 6 ∧ At G v (dBar b) ∧ partP n b ∧ ∀ H' : Hp, Has G H' l → Q (.bl (!shutB n ms)) H'
end
end TW
set_option Elab.async false
set_option linter.all false
set_option maxRecDepth 100000
set_option maxHeartbeats 4000000
/-! x in t, t a tuple of data -/
namespace TW
open PySem PySem.Spec PyProof.Rows L2
section
variable {X : Cx} {K : PySem.W.Frag}
def rInDT (K : PySem.W.Frag) : R2 := fun x y H Q => ∃ d ds, Dp K H x d ∧ Dp K H y (.tuple ds) ∧ SeqAt.shaped d = true ∧ SeqAt.shaped (.tuple ds) = true ∧ Q (.bl (ds.any fun z => PyData.eqv z d)) H
def rNotInDT (K : PySem.W.Frag) : R2 := fun x y H Q => ∃ d ds, Dp K H x d ∧ Dp K H y (.tuple ds) ∧ SeqAt.shaped d = true ∧ SeqAt.shaped (.tuple ds) = true ∧ Q (.bl (!ds.any fun z => PyData.eqv z d)) H
theorem op_inDT (hu : X.A.units + 65 < cLine) (h : X.K = K := by rfl) : OpR X (compareOp .In) (rInDT K) := by
  subst h
  intro pins s σ H x y v u Q I rx ry h
  obtain ⟨d, ds, hd, he, sd, se, q⟩ := h
  obtain ⟨as, r1⟩ := Dp.reads I d x v hd rx
  obtain ⟨bs, r2⟩ := Dp.reads I (.tuple ds) y u he ry
  exact SeqAt.in_tuple_reads r2 r1 (SeqAt.canLay_of_shaped se) (SeqAt.canLay_of_shaped sd) (room_in_shaped sd hu) ⟨.bl _, H, I, rfl, q⟩
theorem op_notInDT (hu : X.A.units + 65 < cLine) (h : X.K = K := by rfl) : OpR X (compareOp .NotIn) (rNotInDT K) := by
  subst h
  intro pins s σ H x y v u Q I rx ry h
  obtain ⟨d, ds, hd, he, sd, se, q⟩ := h
  obtain ⟨as, r1⟩ := Dp.reads I d x v hd rx
  obtain ⟨bs, r2⟩ := Dp.reads I (.tuple ds) y u he ry
  exact SeqAt.notIn_tuple_reads r2 r1 (SeqAt.canLay_of_shaped se) (SeqAt.canLay_of_shaped sd) (room_in_shaped sd hu) ⟨.bl _, H, I, rfl, q⟩
end
end TW
set_option Elab.async false
set_option linter.all false
set_option maxRecDepth 100000
set_option maxHeartbeats 4000000
namespace TW
open PySem PySem.Spec PyProof.Rows L2
/-! why a literal follows -/
def neg (s : Sgn) : Sgn := (s.1, !s.2)
def srt (s t : Sgn) : Bar := if s.1 < t.1 then [s, t] else [t, s]
def clM (ms : List Int) (n : Nat) (b : Bar) : Bar := closM (ms.filter fun m => b.all (met m)) n
def rulesW (b : Bar) (s : Sgn) : List Bar := [s] :: b.map fun k => srt s (neg k)
def whyM (ms : List Int) (n : Nat) (b : Bar) (s : Sgn) : Option Bar := if s ∈ clM ms n b then (if s ∈ b then some [] else (rulesW b s).find? (hasM ms)) else none
theorem met_neg (m : Int) (s : Sgn) : met m (neg s) = !met m s := by
  unfold met neg
  cases bitB m s.1 <;> cases s.2 <;> rfl
theorem neg_neg (s : Sgn) : neg (neg s) = s := by
  unfold neg
  rw [Bool.not_not]
theorem any_bar (s : Sgn) (b : Bar) : ((b.map dSgn).any fun z => PyData.eqv z (dSgn s)) = decide (s ∈ b) := by
  rw [List.any_map, Bool.eq_iff_iff, List.any_eq_true, decide_eq_true_eq]
  constructor
  · rintro ⟨t, ht, e⟩
    have e' : PyData.eqv (dSgn t) (dSgn s) = true := e
    rw [eqv_sgn, decide_eq_true_eq] at e'
    rw [← e']
    exact ht
  · intro hs
    refine ⟨s, hs, ?_⟩
    show PyData.eqv (dSgn s) (dSgn s) = true
    rw [eqv_sgn, decide_eq_true_eq]
theorem shaped_sgn (s : Sgn) : SeqAt.shaped (dSgn s) = true := by
  unfold SeqAt.shaped
  rw [Bool.and_eq_true, decide_eq_true_eq]
  exact ⟨lay_sgn s, Nat.le_trans (dep_sgn s) (by decide)⟩
theorem mem_cl {ms : List Int} {n : Nat} {b : Bar} {s : Sgn} : s ∈ clM ms n b ↔ s.1 < n ∧ ∀ m ∈ ms, b.all (met m) = true → met m s = true := by
  unfold clM closM
  rw [List.mem_filter, mem_allS, List.all_eq_true]
  simp only [List.mem_filter]
  constructor
  · rintro ⟨h1, h2⟩
    exact ⟨h1, fun m hm hb => h2 m ⟨hm, hb⟩⟩
  · rintro ⟨h1, h2⟩
    exact ⟨h1, fun m hm => h2 m hm.1 hm.2⟩
theorem hasM_srt (ms : List Int) (s t : Sgn) : hasM ms (srt s t) = ms.all fun m => met m s || met m t := by
  unfold hasM srt
  congr 1
  funext m
  split
  · show (met m s || (met m t || false)) = _
    rw [Bool.or_false]
  · show (met m t || (met m s || false)) = _
    rw [Bool.or_false, Bool.or_comm]
theorem can_all {ms : List Int} {b : Bar} (h : canM ms b = true) : ∃ m ∈ ms, b.all (met m) = true := by
  unfold canM at h
  exact List.any_eq_true.mp h
/-- in the closure, not in the part: its thing is told nowhere in the part -/
theorem new_thing {ms : List Int} {n : Nat} {b : Bar} {s : Sgn} (hc : canM ms b = true) (hs : s ∈ clM ms n b) (hb : s ∉ b) : ∀ k ∈ b, k.1 ≠ s.1 := fun k hk e => by
  obtain ⟨m, hm, hm2⟩ := can_all hc
  have h1 := (mem_cl.mp hs).2 m hm hm2
  have h2 := List.all_eq_true.mp hm2 k hk
  refine hb ?_
  have : k = s := by
    unfold met at h1 h2
    rw [e] at h2
    rw [beq_iff_eq] at h1 h2
    exact Prod.ext e (by rw [← h2, ← h1])
  rw [← this]
  exact hk
theorem why_found {n : Nat} {ms : List Int} {b : Bar} {s : Sgn} (hsh : Shut n ms) (hb : ∀ k ∈ b, k.1 < n) (hc : canM ms b = true) (hs : s ∈ clM ms n b) (hsb : s ∉ b) : ∃ r, (rulesW b s).find? (hasM ms) = some r := by
  cases e : (rulesW b s).find? (hasM ms) with
  | some r => exact ⟨r, rfl⟩
  | none =>
    exfalso
    rw [List.find?_eq_none] at e
    have mem : ∀ m, m ∈ ms ↔ Mem n ms m := fun m => by
      have := @mem_reach n ms m
      rw [hsh.2] at this
      exact this
    obtain ⟨m0, hm0⟩ := List.exists_mem_of_ne_nil ms hsh.1.2.1
    have no : ∀ {f : Int → Bool}, ¬ (ms.all f = true) → ∃ m ∈ ms, f m = false := fun {f} h => by
      refine Classical.byContradiction fun c => h (List.all_eq_true.mpr fun m hm => ?_)
      cases q : f m with
      | true => rfl
      | false => exact absurd ⟨m, hm, q⟩ c
    have one : ∃ m ∈ ms, met m s = false := by
      have h := e [s] List.mem_cons_self
      rw [hasM_one] at h
      exact no h
    have two : ∀ k ∈ b, ∃ m ∈ ms, met m s = false ∧ met m k = true := fun k hk => by
      have h := e (srt s (neg k)) (List.mem_cons_of_mem _ (List.mem_map.mpr ⟨k, hk, rfl⟩))
      rw [hasM_srt] at h
      obtain ⟨m, hm, q⟩ := no h
      rw [Bool.or_eq_false_iff, met_neg, Bool.not_eq_false'] at q
      exact ⟨m, hm, q.1, q.2⟩
    obtain ⟨mb, hmb, hmb2⟩ := can_all hc
    have all := List.all_eq_true.mp hmb2
    have flip : ∀ {m : Int}, met m s = false → met m (neg s) = true := fun h => by rw [met_neg, h]; rfl
    obtain ⟨m, hm, q⟩ := helly ⟨m0, (mem m0).mp hm0⟩ (neg s :: b).length (neg s :: b) (Nat.le_refl _) (fun k hk => by
      rcases List.mem_cons.mp hk with rfl | hk
      · exact (mem_cl.mp hs).1
      · exact hb k hk) fun x hx y hy => by
        rcases List.mem_cons.mp hx with rfl | hx
        · rcases List.mem_cons.mp hy with rfl | hy
          · obtain ⟨m, hm, q⟩ := one
            exact ⟨m, (mem m).mp hm, flip q, flip q⟩
          · obtain ⟨m, hm, q1, q2⟩ := two y hy
            exact ⟨m, (mem m).mp hm, flip q1, q2⟩
        · rcases List.mem_cons.mp hy with rfl | hy
          · obtain ⟨m, hm, q1, q2⟩ := two x hx
            exact ⟨m, (mem m).mp hm, q2, flip q1⟩
          · exact ⟨mb, (mem mb).mp hmb, all x hx, all y hy⟩
    have h1 := (mem_cl.mp hs).2 m ((mem m).mpr hm) (List.all_eq_true.mpr fun k hk => q k (List.mem_cons_of_mem _ hk))
    have h2 := q (neg s) List.mem_cons_self
    rw [met_neg, h1] at h2
    cases h2
theorem sort_two {s t : Sgn} (h : s.1 ≠ t.1) : [dSgn s, dSgn t].mergeSort dLe = (srt s t).map dSgn := by
  have pm := List.mergeSort_perm [dSgn s, dSgn t] dLe
  have pw := dLe_pw [dSgn s, dSgn t]
  obtain ⟨b, hb, e⟩ := perm_back (f := dSgn) (m := [s, t]) pm
  rw [e] at pw ⊢
  congr 1
  rw [List.pairwise_map] at pw
  match b, hb, pw with
  | [], hb, _ => cases hb.length_eq
  | [_], hb, _ => cases hb.length_eq
  | _ :: _ :: _ :: _, hb, _ => cases hb.length_eq
  | [p, q], hb, pw =>
    have hp := hb.mem_iff.mp (show p ∈ [p, q] from List.mem_cons_self)
    have hq := hb.mem_iff.mp (show q ∈ [p, q] from List.mem_cons_of_mem _ List.mem_cons_self)
    have hle : dLe (dSgn p) (dSgn q) = true := (List.pairwise_cons.mp pw).1 q List.mem_cons_self
    have hlt : PySem.W.dataLt (dSgn q) (dSgn p) = false := by
      have : dLe (dSgn p) (dSgn q) = !PySem.W.dataLt (dSgn q) (dSgn p) := rfl
      rw [this, Bool.not_eq_true'] at hle
      exact hle
    simp only [List.mem_cons, List.not_mem_nil, or_false] at hp hq
    have hs := hb.mem_iff.mpr (show s ∈ [s, t] from List.mem_cons_self)
    have ht := hb.mem_iff.mpr (show t ∈ [s, t] from List.mem_cons_of_mem _ List.mem_cons_self)
    simp only [List.mem_cons, List.not_mem_nil, or_false] at hs ht
    unfold srt
    rcases hp with rfl | rfl
    · have hq' : q = t := by
        rcases ht with rfl | rfl
        · exact absurd rfl h
        · rfl
      subst hq'
      rw [if_pos (sgn_lt hlt h)]
    · have hq' : q = s := by
        rcases hs with rfl | rfl
        · exact absurd rfl h
        · rfl
      subst hq'
      have := sgn_lt hlt (Ne.symm h)
      rw [if_neg (by omega)]
theorem fit_eq {n : Nat} {ms : List Int} {L : Lots} (h : LotsAre n ms (L.map (·.2))) {b : Bar} (hb : ∀ s ∈ b, s.1 < n) : closL (fitL L b) n = clM ms n b ∧ (fitL L b = [] ↔ canM ms b = false) := by
  have h1 : ∀ p ∈ fitL L b, ∃ m ∈ ms, b.all (met m) = true ∧ p.2 = lotOf m n := fun p hp => by
    obtain ⟨hp1, hp2⟩ := List.mem_filter.mp hp
    obtain ⟨m, hm, e⟩ := h.1 p.2 (List.mem_map_of_mem hp1)
    refine ⟨m, hm, ?_, e⟩
    rw [← all_mt hb, ← e]
    exact hp2
  have h2 : ∀ m ∈ ms, b.all (met m) = true → ∃ p ∈ fitL L b, p.2 = lotOf m n := fun m hm hm2 => by
    obtain ⟨p, hp, e⟩ := List.mem_map.mp (h.2 m hm)
    refine ⟨p, List.mem_filter.mpr ⟨hp, ?_⟩, e⟩
    have e' : p.2 = lotOf m n := e
    rw [e', all_mt hb]
    exact hm2
  refine ⟨?_, ?_⟩
  · unfold closL clM closM
    refine filt_congr fun s hs => ?_
    have hs' := allS_lt hs
    rw [Bool.eq_iff_iff, List.all_eq_true, List.all_eq_true]
    constructor
    · intro q m hm
      obtain ⟨hm1, hm2⟩ := List.mem_filter.mp hm
      obtain ⟨p, hp, e⟩ := h2 m hm1 hm2
      have := q p hp
      rw [e, mt_lot hs'] at this
      exact this
    · intro q p hp
      obtain ⟨m, hm, hm2, e⟩ := h1 p hp
      rw [e, mt_lot hs']
      exact q m (List.mem_filter.mpr ⟨hm, hm2⟩)
  · constructor
    · intro e
      cases hc : canM ms b with
      | false => rfl
      | true =>
        obtain ⟨m, hm, hm2⟩ := can_all hc
        obtain ⟨p, hp, _⟩ := h2 m hm hm2
        rw [e] at hp
        exact absurd hp List.not_mem_nil
    · intro hc
      cases e : fitL L b with
      | nil => rfl
      | cons p r =>
        obtain ⟨m, hm, hm2, _⟩ := h1 p (by rw [e]; exact List.mem_cons_self)
        have : canM ms b = true := List.any_eq_true.mpr ⟨m, hm, hm2⟩
        rw [hc] at this
        cases this
theorem srt_sub (s t : Sgn) : ∀ x ∈ srt s t, x = s ∨ x = t := fun x hx => by
  unfold srt at hx
  split at hx <;> simp only [List.mem_cons, List.not_mem_nil, or_false] at hx
  · exact hx
  · exact hx.symm
theorem rulesW_len {b : Bar} {s : Sgn} {r : Bar} (h : r ∈ rulesW b s) : r.length ≤ 2 := by
  unfold rulesW at h
  rcases List.mem_cons.mp h with rfl | h
  · show 1 ≤ 2
    decide
  · obtain ⟨k, _, rfl⟩ := List.mem_map.mp h
    unfold srt
    split <;> exact Nat.le_refl 2
section
variable {P : Program} {w : World} {K : PySem.W.Frag} {mg : Str → Option Value} {base : Heap} {C N NC : Addr}
abbrev NWH : List Str := ["table", "part", "literal", "rules", "known", "rule"]
theorem sc_why : FnScope NWH ["table", "part", "literal"] (defScope s_why) := ⟨rfl, rfl, rfl, by decide +kernel, rfl, by decide +kernel, by decide +kernel⟩
def spWhy (C N NC : Addr) : Sp := fun vs H Q E => ∃ (G : Hp) (l : List (Addr × HO)) (a : Addr) (n : Nat) (L : Lots) (ms : List Int) (v u : V) (b : Bar) (s : Sgn), vs = [.ref a, v, u] ∧ Has G H l ∧ TabAt C G a n L ∧ TabOf n ms L ∧ masksOk n ms ∧ 0 < n ∧ n ≤ 6 ∧ At G v (dBar b) ∧ partP n b ∧ At G u (dSgn s) ∧ s.1 < n ∧
  (shutB n ms = false → ∀ H' : Hp, Has G H' l → E (.ref NC) none H') ∧ (shutB n ms = true → canM ms b = false → ∀ H' : Hp, Has G H' l → E (.ref N) none H') ∧
  (shutB n ms = true → Shut n ms → canM ms b = true → ∀ (G' H' : Hp) (x : V), Ex G G' → Has G' H' l → At G' x (dOpt (whyM ms n b s)) → Q x H')
theorem fn_why {f gp gf fk fc : Addr} {fd gfd fkd fcd : FuncData} (F : Fun K "why" "why" s_why f fd) (z : Z mg) (T : TC K mg C) (PT : TG P w K mg base C gp gf gfd "things" (spThings C)) (O_check_table : Ok P w K mg base 1 "check_table" ["table"] (spCheckTable C)) (O_check_part : Ok P w K mg base 5 "check_part" ["part", "things"] spCheckPart)
    (O_check_literal : Ok P w K mg base 4 "check_literal" ["literal", "things"] spCheckLiteral) (RK : FnOk P w K mg base (L2.CX P w) 10 fk fkd ["table"] (spCheckClosed C NC)) (gK : mg "check_closed" = some (.ref fk)) (kK : PySem.W.keepIn K (.ref fk) = true) (bK : Binds K fkd ["table"] [])
    (RC : FnOk P w K mg base (L2.CX P w) 8 fc fcd ["table", "part"] (spClosure C N)) (gC : mg "closure" = some (.ref fc)) (kC : PySem.W.keepIn K (.ref fc) = true) (bC : Binds K fcd ["table", "part"] []) (O_contrary : Ok P w K mg base 5 "contrary" ["literal"] spContrary) (O_has : Ok P w K mg base 3 "has_rule" ["table", "rule"] (spHasRule C)) :
    FnOk P w K mg base (L2.CX P w) 11 f fd ["table", "part", "literal"] (spWhy C N NC) := by
  refine F.okX sc_why (fun vs H Q E h => ?_) (fun cdv A outer sh H vs Q E hr h => ?_)
  · obtain ⟨G, l, a, n, L, ms, v, u, b, s, rfl, _⟩ := h
    rfl
  · obtain ⟨G, l, a, n, L, ms, v, u, b, s, rfl, S, tab, htab, hms, hn, hn6, hv, ⟨lb, bb, ub⟩, hu, hsn, qe1, qe2, q⟩ := h
    obtain ⟨dx, tl, h1, h2, h3⟩ := id tab
    have hins := ins_of bb
    have hasc := upB_asc ub
    have hL := lots_ok htab hn6
    have lL := lots_le htab hms hn hn6
    have are := tabOf_are htab
    have hu65 : (A.deeper (envOfC "why" (defScope s_why) sh.heap.objs.size f cdv)).units + 65 < cLine := by
      have := hr.un
      omega
    refine ⟨_, (pss_cons (ps_expr (pe_o O_check_table (hr.mono (by decide)) (pa_cons (pv 0) pa_nil)))
      (pss_cons (ps_expr (pe_o O_check_part (hr.mono (by decide)) (pa_cons (pv 1) (pa_cons (pe_prop (pv 0) T.cl PT.at_ PT.ok (hr.mono (by decide)) PT.b .nil pass0 rfl) pa_nil))))
      (pss_cons (ps_expr (pe_o O_check_literal (hr.mono (by decide)) (pa_cons (pv 2) (pa_cons (pe_prop (pv 0) T.cl PT.at_ PT.ok (hr.mono (by decide)) PT.b .nil pass0 rfl) pa_nil))))
      (pss_cons (ps_expr (pe_callS RK hr (by rfl) gK kK bK (fun σ => passAt (takes_of rfl rfl rfl rfl) σ) (by exact (pa_cons (pv 0) pa_nil))))
      (pss_cons (ps_if (pt_cmpR (op_notInDT (K := K) hu65) (pv 2) (pe_callS RC (hr.mono (by decide)) (by rfl) gC kC bC (fun σ => passAt (takes_of rfl rfl rfl rfl) σ) (by exact (pa_cons (pv 0) (pa_cons (pv 1) pa_nil)))) (by rfl)) (pss_one (ps_ret pe_non)) pss_nil)
      (pss_cons (ps_if (pt_cmpR (op_inDT (K := K) hu65) (pv 2) (pv 1) (by rfl)) (pss_one (ps_ret (pe_tup pa_nil))) pss_nil)
      (pss_cons (ps_set (i := 3) sc_why.nd rfl (Or.inl rfl) (pe_op op_cat (pe_lst (pa_cons (pe_tup (pa_cons (pv 2) pa_nil)) pa_nil)) (pe_lc (own := [("known", 4)]) (g := gName 4) rfl sc_why.nd (pi_tup (pv 1)) (blkOk_by (N := NWH) (own := [("known", 4)]) (sc := defScope s_why) (by decide +kernel)) (fun _ _ _ _ _ => pg_name (i := 4) sc_why.nd rfl (Or.inl rfl)) (fun _ _ _ _ _ => pts_nil) (fun _ _ _ _ _ => (pe_callTy (call_tupleK (K := K)) (by rfl) z.tuple (by decide +kernel) (pa_cons (pe_callB (cr_sortE (K := K) hr.units) (by rfl) z.sorted (by decide +kernel) (pa_cons (pe_lst (pa_cons (pv 2) (pa_cons (pe_o O_contrary (hr.mono (by decide)) (pa_cons (pv 4) pa_nil)) pa_nil))) pa_nil)) pa_nil))))))
      (pss_one (ps_ret (pe_ix ix_list (pe_lc (own := [("rule", 5)]) (g := gName 5) rfl sc_why.nd (pi_list (pv 3)) (blkOk_by (N := NWH) (own := [("rule", 5)]) (sc := defScope s_why) (by decide +kernel)) (fun _ _ _ _ _ => pg_name (i := 5) sc_why.nd rfl (Or.inl rfl)) (fun _ _ _ _ _ => pts_one (pt_val (pe_o O_has (hr.mono (by decide)) (pa_cons (pv 0) (pa_cons (pv 5) pa_nil))))) (fun _ _ _ _ _ => (pv 5))) pe_int (fun _ _ => rfl))))))))))), ?_⟩
    refine ⟨_, rfl, a, n, L, rfl, tab.ex S.ex, ?_⟩
    refine ⟨_, rfl, _, rfl, a, dx, _, rfl, S.ex _ _ h1, a, n, L, rfl, tab.ex S.ex, v, b, some (n : Int), rfl, hv.ex S.ex, by omega, hins, hasc, fun H1 e1 => ?_⟩
    have S1 := S.go e1
    refine ⟨_, rfl, _, rfl, a, dx, _, rfl, S1.ex _ _ h1, a, n, L, rfl, tab.ex S1.ex, u, s, some (n : Int), rfl, hu.ex S1.ex, decide_eq_true (show (s.1 : Int) < (n : Int) by omega), fun H2 e2 => ?_⟩
    have S2 := S1.go e2
    refine ⟨_, rfl, G, l, a, n, L, ms, rfl, S2, tab, htab, hms, hn, hn6, fun hs H3 S3 => ?_, fun hs H3 S3 => qe1 hs H3 S3⟩
    have hshut := shut_of hms hs
    obtain ⟨fe1, fe2⟩ := fit_eq are bb
    refine ⟨_, rfl, _, rfl, _, rfl, G, l, a, n, L, v, b, rfl, S3, tab, hL, by omega, by omega, hv, by omega, hins, hasc, fun h0 H4 S4 => qe2 hs (fe2.mp h0) H4 S4, fun h0 G4 H4 x e4 S4 ax => ?_⟩
    have hc : canM ms b = true := by
      cases e : canM ms b with
      | true => rfl
      | false => exact absurd (fe2.mpr e) h0
    have q := q hs hshut hc
    rw [fe1] at ax
    have hu4 := hu.ex e4
    have hv4 := hv.ex e4
    have tab4 := tab.ex e4
    refine ⟨dSgn s, (clM ms n b).map dSgn, (hu4.ex S4.ex).dp, (ax.ex S4.ex).dp, shaped_sgn s, shaped_bar _, _, rfl, ?_⟩
    rw [any_bar]
    have hw : whyM ms n b s = if s ∈ clM ms n b then (if s ∈ b then some [] else (rulesW b s).find? (hasM ms)) else none := rfl
    by_cases hcl : s ∈ clM ms n b
    · rw [decide_eq_true hcl]
      rw [if_pos hcl] at hw
      refine ⟨_, rfl, _, rfl, dSgn s, b.map dSgn, (hu4.ex S4.ex).dp, (hv4.ex S4.ex).dp, shaped_sgn s, shaped_bar _, _, rfl, ?_⟩
      rw [any_bar]
      by_cases hbs : s ∈ b
      · rw [decide_eq_true hbs]
        rw [if_pos hbs] at hw
        rw [hw] at q
        refine ⟨sz (by show 0 ≤ 100000; decide), fun p np => ?_⟩
        have S5 := S4.new (o := .tup []) np
        exact q _ _ _ (e4.trans S5.exS) S5.sink (At.mkT upd_same .nil)
      · rw [decide_eq_false hbs]
        rw [if_neg hbs] at hw
        obtain ⟨r, hr0⟩ := why_found hshut bb hc hcl hbs
        have nth := new_thing hc hcl hbs
        rw [hw, hr0] at q
        obtain ⟨p, ys, rfl, hp, hy⟩ := hv4.bar
        have ly : ys.length = b.length := by rw [hy.1, List.length_map]
        refine ⟨_, rfl, sz (by show 1 ≤ 100000; decide), fun t1 nt1 => ⟨sz (by show 1 ≤ 100000; decide), fun l1 nl1 => ?_⟩⟩
        have S5 := S4.new (o := .tup [u]) nt1
        have a5 : At (upd G4 t1 (.tup [u])) (.ref t1) (dBar [s]) := At.mkT upd_same (.cons (hu4.ex S5.exS) .nil)
        have e5 := S5.exS
        have S6 := S5.sink.new (o := .lst [.ref t1]) nl1
        generalize upd G4 t1 (.tup [u]) = G5 at S6 a5 e5
        generalize upd (upd H4 t1 (.tup [u])) l1 (.lst [.ref t1]) = H6 at S6
        have hp5 := e5 _ _ hp
        have hu5 := hu4.ex e5
        have hy5 := hy.ex e5
        refine ⟨_, rfl, p, rfl, ⟨_, Evl.st_of (S6.ex _ _ hp5)⟩, fun D1 nD1 => ?_⟩
        refine lc_tup (K := K) (xs := ys) (fun i H' => ∃ (G' : Hp) (zs : List V), Ex G5 G' ∧ Has G' H' ((D1, .lst zs) :: (l1, .lst [.ref t1]) :: l) ∧ Ats G' zs (((b.take i).map fun k => srt s (neg k)).map dBar)) ⟨G5, [], Evl.Ex.refl _, S6.new nD1, .nil⟩ (fun i H' _ p => by
          obtain ⟨G', zs, e, S', _⟩ := p
          exact Evl.st_of (S'.ex _ _ (e _ _ hp5))) ?_ ?_
        · rintro i x H7 hi ⟨G7, zs, e7, S7, a7⟩
          obtain ⟨k, hk, hK⟩ := ats_get hy5 hi
          have hkb := List.mem_of_getElem? hk
          have lz : zs.length ≤ 100 := by
            rw [a7.1, List.length_map, List.length_map, List.length_take]
            omega
          refine ⟨rfl, _, rfl, _, rfl, G7, (D1, .lst zs) :: (l1, .lst [.ref t1]) :: l, x, k, rfl, S7, hK.ex e7, fun G8 H8 y e8 S8 ay => ?_⟩
          refine ⟨sz (by show 2 ≤ 100000; decide), fun l2 nl2 => ?_⟩
          have S9 := S8.new (o := .lst [u, y]) nl2
          generalize upd H8 l2 (.lst [u, y]) = H9 at S9
          have hu8 := (hu5.ex e7).ex e8
          have as12 : ∀ c ∈ [(u, dSgn s), (y, dSgn (neg k))], At G8 c.1 c.2 := fun c hc' => by
            simp only [List.mem_cons, List.not_mem_nil, or_false] at hc'
            rcases hc' with rfl | rfl
            · exact hu8
            · exact ay
          refine ⟨l2, [(u, dSgn s), (y, dSgn (neg k))], rfl, Evl.sq_of (S9.get 0 rfl), fun c hc' => ((as12 c hc').ex S9.ex).dp, .inl (sgn_sort (ds := [s, neg k])), fun c hc' => ?_, fun m nm => ?_⟩
          · simp only [List.mem_cons, List.not_mem_nil, or_false] at hc'
            rcases hc' with rfl | rfl <;> exact Nat.le_trans (dep_sgn _) (by decide)
          · have fin := ats_sort as12
            rw [show ([(u, dSgn s), (y, dSgn (neg k))].map (·.2)) = [dSgn s, dSgn (neg k)] from rfl, sort_two (show s.1 ≠ (neg k).1 from fun e => nth k hkb e.symm)] at fin
            generalize ([(u, dSgn s), (y, dSgn (neg k))].mergeSort (PySem.W.dataLe false (·.2))).map (·.1) = Zs at fin
            have S10 := S9.new (o := .lst Zs) nm
            generalize upd H9 m (.lst Zs) = H10 at S10
            refine ⟨m, Zs, rfl, .inl ⟨Evl.sq_of (S10.get 0 rfl), fun r1 nr1 => ?_⟩⟩
            have S11 := S10.tail.tail.new (o := .tup Zs) nr1
            refine ⟨zs, S11.get 1 rfl, szl (by omega), _, zs ++ [.ref r1], (e7.trans e8).trans S11.exS, S11.sink.set 0 rfl, ?_⟩
            rw [take_snoc hk, List.map_append, List.map_append]
            exact ((a7.ex e8).ex S11.exS).snoc (At.mkT upd_same (fin.ex S11.exS))
        · rintro H7 ⟨G7, zs, e7, S7, a7⟩
          rw [List.take_of_length_le (by omega)] at a7
          have lz : zs.length = b.length := by rw [a7.1, List.length_map, List.length_map]
          refine ⟨l1, D1, [.ref t1], zs, rfl, rfl, S7.get 1 rfl, S7.get 0 rfl, sz (by show 1 + zs.length ≤ 100000; omega), fun l3 nl3 => ?_⟩
          have S8' := S7.new (o := .lst ([.ref t1] ++ zs)) nl3
          have a8' : Ats G7 ([.ref t1] ++ zs) ((rulesW b s).map dBar) := .cons (a5.ex e7) a7
          have S8 := S8'.drop2.drop2.sink
          have e8 := (e5.trans e7).trans S8'.exS
          have a8 := a8'.ex S8'.exS
          have hl3 : (upd G7 l3 (.lst ([.ref t1] ++ zs))) l3 = some (.lst ([.ref t1] ++ zs)) := upd_same
          generalize upd G7 l3 (.lst ([.ref t1] ++ zs)) = G8 at S8 e8 a8 hl3
          generalize upd H7 l3 (.lst ([.ref t1] ++ zs)) = H8 at S8
          have lus : ([V.ref t1] ++ zs).length ≤ 101 := by rw [List.length_append, List.length_singleton]; omega
          generalize ([V.ref t1] ++ zs) = us at a8 hl3 lus
          have lu : us.length = (rulesW b s).length := by rw [a8.1, List.length_map]
          have tab8 := tab4.ex e8
          refine ⟨_, rfl, l3, rfl, ⟨_, Evl.sq_of (S8.ex _ _ hl3)⟩, fun D2 nD2 => ?_⟩
          refine lc_list (K := K) (a := l3) (xs := us) (fun i H' => ∃ rs : List V, Has G8 H' ((D2, .lst rs) :: l) ∧ Ats G8 rs ((((rulesW b s).take i).filter (hasM ms)).map dBar)) ⟨[], S8.new nD2, .nil⟩ (fun i H' _ p => by
            obtain ⟨rs, S', _⟩ := p
            exact Evl.sq_of (S'.ex _ _ hl3)) ?_ ?_
          · rintro i x H9 hi ⟨rs, S9, a9⟩
            obtain ⟨c, hc', hC⟩ := ats_get a8 hi
            have hcm := List.mem_of_getElem? hc'
            have lc := rulesW_len hcm
            have cb : ∀ x ∈ c, x.1 < n := fun x hx => by
              unfold rulesW at hcm
              rcases List.mem_cons.mp hcm with rfl | hcm
              · rw [List.mem_singleton.mp hx]
                exact hsn
              · obtain ⟨k, hk, rfl⟩ := List.mem_map.mp hcm
                rcases srt_sub _ _ x hx with rfl | rfl
                · exact hsn
                · exact bb k hk
            have lr : rs.length ≤ 101 := by
              rw [a9.1, List.length_map]
              have := filt_len (hasM ms) (rulesW b s) i
              omega
            refine ⟨rfl, _, rfl, _, rfl, a, n, L, x, c, rfl, tab8.ex S9.ex, hC.ex S9.ex, by omega, fun H10 e10 => ⟨_, rfl, ?_⟩⟩
            have S10 := S9.go e10
            rw [hasR_eq are cb]
            cases hq : hasM ms c with
            | false =>
              refine ⟨rs, S10, ?_⟩
              rw [filt_no (f := hasM ms) hc' hq]
              exact a9
            | true =>
              refine ⟨_, rfl, rs, S10.get 0 rfl, szl (by omega), rs ++ [x], S10.set 0 rfl, ?_⟩
              rw [filt_yes (f := hasM ms) hc' hq, List.map_append]
              exact a9.snoc hC
          · rintro H9 ⟨rs, S9, a9⟩
            rw [List.take_of_length_le (by omega)] at a9
            rw [find_filter] at hr0
            have hd : (((rulesW b s).filter (hasM ms)).map dBar)[0]? = some (dBar r) := by
              rw [List.getElem?_map, hr0]
              rfl
            obtain ⟨x, hx, hX⟩ := a9.at_ hd
            refine ⟨D2, rs, 0, x, rfl, rfl, Evl.sq_of (S9.get 0 rfl), atI_nat (j := 0) hx, ?_⟩
            exact q G8 H9 x (e4.trans e8) S9.tail hX
    · rw [decide_eq_false hcl]
      rw [if_neg hcl] at hw
      rw [hw] at q
      exact q G4 H4 .non e4 S4 .non
end
end TW
set_option Elab.async false
set_option linter.all false
set_option maxRecDepth 100000
set_option maxHeartbeats 4000000
namespace TW
open PySem PySem.Spec PyProof.Rows L2
def wNC : Str := Str.ofString "NotClosed"
def wNL : Str := Str.ofString "NoLot"
def toldW (ms : List Int) (n : Nat) (b : Bar) (s : Sgn) : PyData := if shutB n ms = false then .list [.str wNC] else if canM ms b = false then .list [.str wNL] else dOpt (whyM ms n b s)
theorem sw_out (b : Bool) : decide (V.str (sw b) = V.str "out") = !b := by cases b <;> decide +kernel
def RuleFor (b : Bar) (s : Sgn) (r : Bar) : Prop := r = [s] ∨ ∃ k ∈ b, k.1 ≠ s.1 ∧ r = srt s (neg k)
theorem why_some {ms : List Int} {n : Nat} {b : Bar} {s : Sgn} {r : Bar} (hc : canM ms b = true) (h1 : s ∈ clM ms n b) (h2 : s ∉ b) (h : whyM ms n b s = some r) : RuleFor b s r ∧ hasM ms r = true := by
  unfold whyM at h
  rw [if_pos h1, if_neg h2] at h
  refine ⟨?_, List.find?_some h⟩
  have hm := List.mem_of_find?_eq_some h
  unfold rulesW at hm
  rcases List.mem_cons.mp hm with e | hm
  · exact .inl e
  · obtain ⟨k, hk, e⟩ := List.mem_map.mp hm
    exact .inr ⟨k, hk, new_thing hc h1 h2 k hk, e.symm⟩
theorem rule_ok {n : Nat} {b : Bar} {s : Sgn} {r : Bar} (h : RuleFor b s r) (hs : s.1 < n) (hb : ∀ k ∈ b, k.1 < n) : barOk n r := by
  rcases h with rfl | ⟨k, hk, hne, rfl⟩
  · exact ⟨List.cons_ne_nil _ _, by show 1 ≤ 2; decide, fun x hx => by rw [List.mem_singleton.mp hx]; exact hs, List.pairwise_singleton _ _⟩
  · refine ⟨?_, ?_, fun x hx => ?_, ?_⟩
    · unfold srt
      split <;> exact List.cons_ne_nil _ _
    · unfold srt
      split <;> exact Nat.le_refl 2
    · rcases srt_sub _ _ x hx with rfl | rfl
      · exact hs
      · exact hb k hk
    · have e : (neg k).1 = k.1 := rfl
      unfold srt
      split
      · refine List.pairwise_cons.mpr ⟨fun x hx => ?_, List.pairwise_singleton _ _⟩
        rw [List.mem_singleton.mp hx]
        assumption
      · refine List.pairwise_cons.mpr ⟨fun x hx => ?_, List.pairwise_singleton _ _⟩
        rw [List.mem_singleton.mp hx]
        omega
section
variable {P : Program} {w : World} {K : PySem.W.Frag} {mg : Str → Option Value} {base : Heap} {C N NC : Addr}
/-! _law_told_why -/
abbrev NTW : List Str := ["book", "told", "sign", "out", "fate"]
def spToldWhy (C : Addr) : Sp := fun vs H Q _ => ∃ (G : Hp) (l : List (Addr × HO)) (a : Addr) (n : Nat) (L : Lots) (ms : List Int) (v u : V) (b : Bar) (s : Sgn), vs = [.ref a, v, u] ∧ Has G H l ∧ TabAt C G a n L ∧ TabOf n ms L ∧ masksOk n ms ∧ 0 < n ∧ n ≤ 6 ∧ At G v (dBar b) ∧ partP n b ∧ At G u (dSgn s) ∧ s.1 < n ∧
  ∀ (G' H' : Hp) (x : V), Ex G G' → Has G' H' l → At G' x (toldW ms n b s) → Q x H'
def spNumber : Sp := fun vs H Q _ => ∃ i : Int, vs = [.int i] ∧ Q (.bl true) H
def spALit : Sp := fun vs H Q _ => ∃ (v : V) (s : Sgn) (n : Nat), vs = [v, .int n] ∧ At H v (dSgn s) ∧ s.1 < n ∧ ∀ H', Ex H H' → Q (.bl true) H'
def spARule : Sp := fun vs H Q _ => ∃ (v : V) (r : Bar) (n : Nat), vs = [v, .int n] ∧ At H v (dBar r) ∧ barOk n r ∧ ∀ H', Ex H H' → Q (.bl true) H'
/-! _law_why_right -/
abbrev NWR : List Str := ["masks", "told", "sign", "answer", "other", "turned", "mask"]
def spWhyRight (K : PySem.W.Frag) : Sp := fun vs H Q _ => ∃ (a : Addr) (ms : List Int) (v u x : V) (b : Bar) (s : Sgn) (r : Bar), vs = [.ref a, v, u, x] ∧ SqL K H a (ms.map V.int) ∧ ms.length ≤ 1000 ∧ At H v (dBar b) ∧ (∀ k ∈ b, k.1 < 6) ∧ At H u (dSgn s) ∧ s.1 < 6 ∧ At H x (dBar r) ∧ RuleFor b s r ∧ hasM ms r = true ∧ ∀ H', Ex H H' → Q (.bl true) H'
/-- answer[0] if answer[1] == sign else answer[1] -/
def tOther : TE := fun σ H Q => ∃ (u x : V) (b : Bar) (s k : Sgn) (r : Bar), σ[2]? = some (some u) ∧ σ[3]? = some (some x) ∧ At H u (dSgn s) ∧ At H x (dBar r) ∧ k.1 ≠ s.1 ∧ r = srt s (neg k) ∧ ∀ y, At H y (dSgn (neg k)) → Q y H
/-- the contrary of other -/
def tTurned : TE := fun σ H Q => ∃ (v : V) (k : Sgn), σ[4]? = some (some v) ∧ At H v (dSgn k) ∧ ∀ (y : V) (H' : Hp), Ex H H' → At H' y (dSgn (neg k)) → Q y H'
end
end TW
set_option Elab.async false
set_option linter.all false
set_option maxRecDepth 100000
set_option maxHeartbeats 4000000
namespace TW
open PySem PySem.Spec PyProof.Rows L2
/-! literals in their order -/
def As (s t : Sgn) : Prop := s.1 < t.1 ∨ (s.1 = t.1 ∧ s.2 = true ∧ t.2 = false)
theorem allS_pw (n : Nat) : (allS n).Pairwise As := by
  induction n with
  | zero => exact List.Pairwise.nil
  | succ n ih =>
    rw [allS_up]
    refine List.pairwise_append.mpr ⟨ih, ?_, fun s hs t ht => ?_⟩
    · refine List.pairwise_cons.mpr ⟨fun t ht => ?_, List.pairwise_singleton _ _⟩
      rw [List.mem_singleton.mp ht]
      exact .inr ⟨rfl, rfl, rfl⟩
    · have h1 := allS_lt hs
      simp only [List.mem_cons, List.not_mem_nil, or_false] at ht
      rcases ht with rfl | rfl <;> exact .inl h1
theorem dLe_no {s t : Sgn} (h : As s t) : dLe (dSgn t) (dSgn s) = false := by
  have e : PySem.W.dataLt (dSgn s) (dSgn t) = true := by
    rcases h with h | ⟨h1, h2, h3⟩
    · show PyProof.Rows.lexLt PyProof.Rows.itemOrd (Sum.inl 1 :: (Sum.inl (s.1 : Int) :: _)) (Sum.inl 1 :: (Sum.inl (t.1 : Int) :: _)) = true
      rw [PyProof.Rows.lex_self, PyProof.Rows.lex_diff (O := PyProof.Rows.itemOrd) (fun e => by
        have := Sum.inl.inj e
        omega)]
      show decide ((s.1 : Int) < (t.1 : Int)) = true
      exact decide_eq_true (by omega)
    · obtain ⟨k, x⟩ := s
      obtain ⟨k', y⟩ := t
      cases h2
      cases h3
      have h1' : k = k' := h1
      subst h1'
      show PyProof.Rows.lexLt PyProof.Rows.itemOrd (Sum.inl 1 :: (Sum.inl (k : Int) :: _)) (Sum.inl 1 :: (Sum.inl (k : Int) :: _)) = true
      rw [PyProof.Rows.lex_self, PyProof.Rows.lex_self]
      show PyProof.Rows.lexLt PyProof.Rows.itemOrd ([].append (PySem.W.keyToksAll [PyData.str (sw true)])) ([].append (PySem.W.keyToksAll [PyData.str (sw false)])) = true
      decide +kernel
  have e2 : dLe (dSgn t) (dSgn s) = !PySem.W.dataLt (dSgn s) (dSgn t) := rfl
  rw [e2, e]
  rfl
theorem dLe_tot (a b : PyData) : dLe a b = true ∨ dLe b a = true := by
  have T := PySem.W.sortLe_total (PyProof.Rows.listOrd PyProof.Rows.itemOrd) false (fun b : PyData => PySem.W.keyToks b)
  have e : dLe = PySem.W.sortLe (PyProof.Rows.listOrd PyProof.Rows.itemOrd) false (fun b : PyData => PySem.W.keyToks b) := rfl
  rw [e]
  exact T.total a b
theorem dLe_yes {s t : Sgn} (h : As s t) : dLe (dSgn s) (dSgn t) = true := by
  rcases dLe_tot (dSgn s) (dSgn t) with c | c
  · exact c
  · rw [dLe_no h] at c
    cases c
theorem as_tri (s t : Sgn) : s = t ∨ As s t ∨ As t s := by
  obtain ⟨k, x⟩ := s
  obtain ⟨k', y⟩ := t
  unfold As
  rcases Nat.lt_trichotomy k k' with c | c | c
  · exact .inr (.inl (.inl c))
  · subst c
    cases x <;> cases y <;> simp
  · exact .inr (.inr (.inl c))
theorem dLe_anti {s t : Sgn} (h : dLe (dSgn s) (dSgn t) = true) (h' : dLe (dSgn t) (dSgn s) = true) : s = t := by
  rcases as_tri s t with c | c | c
  · exact c
  · rw [dLe_no c] at h'
    cases h'
  · rw [dLe_no c] at h
    cases h
theorem as_ne {s t : Sgn} (h : As s t) : s ≠ t := fun e => by
  subst e
  rcases h with h | ⟨_, h1, h2⟩
  · omega
  · rw [h1] at h2
    cases h2
theorem sort_same {J c : Bar} (nd : J.Nodup) (pc : c.Pairwise As) (h : ∀ s, s ∈ J ↔ s ∈ c) : (J.map dSgn).mergeSort dLe = c.map dSgn := by
  have pm := List.mergeSort_perm (J.map dSgn) dLe
  have pw := dLe_pw (J.map dSgn)
  obtain ⟨b, hb, e⟩ := perm_back (f := dSgn) (m := J) pm
  rw [e] at pw ⊢
  congr 1
  rw [List.pairwise_map] at pw
  have nc : c.Nodup := pc.imp fun h => as_ne h
  have nb : b.Nodup := hb.nodup_iff.mpr nd
  refine List.Perm.eq_of_pairwise (fun s t _ _ h1 h2 => dLe_anti h1 h2) pw (pc.imp fun h => dLe_yes h) ((List.perm_ext_iff_of_nodup nb nc).mpr fun s => ?_)
  rw [hb.mem_iff, h]
theorem sort_part {b : Bar} {s : Sgn} (ub : UpB b) (h : ∀ t ∈ b, t.1 ≠ s.1) : ∃ W : Bar, ((b ++ [s]).map dSgn).mergeSort dLe = W.map dSgn ∧ UpB W ∧ W.Perm (b ++ [s]) := by
  have pm := List.mergeSort_perm ((b ++ [s]).map dSgn) dLe
  have pw := dLe_pw ((b ++ [s]).map dSgn)
  obtain ⟨W, hW, e⟩ := perm_back (f := dSgn) (m := b ++ [s]) pm
  rw [e] at pw
  rw [List.pairwise_map] at pw
  refine ⟨W, e, ?_, hW⟩
  have ne : (b ++ [s]).Pairwise fun x y => x.1 ≠ y.1 := by
    refine List.pairwise_append.mpr ⟨ub.imp fun h => Nat.ne_of_lt h, List.pairwise_singleton _ _, fun x hx y hy => ?_⟩
    rw [List.mem_singleton.mp hy]
    exact h x hx
  have neW : W.Pairwise fun x y => x.1 ≠ y.1 := (hW.pairwise_iff fun h => Ne.symm h).mpr ne
  unfold UpB
  refine List.Pairwise.imp₂ (fun x y h1 h2 => ?_) pw neW
  refine sgn_lt ?_ h2
  have e3 : dLe (dSgn x) (dSgn y) = !PySem.W.dataLt (dSgn y) (dSgn x) := rfl
  rw [e3, Bool.not_eq_true'] at h1
  exact h1
/-! closures, once more -/
theorem cl_pw (ms : List Int) (n : Nat) (b : Bar) : (clM ms n b).Pairwise As := List.Pairwise.sublist List.filter_sublist (allS_pw n)
theorem cl_nodup (ms : List Int) (n : Nat) (b : Bar) : (clM ms n b).Nodup := (cl_pw ms n b).imp fun h => as_ne h
theorem cl_len (ms : List Int) (n : Nat) (b : Bar) : (clM ms n b).length ≤ 2 * n := by
  rw [← allS_len n]
  exact List.length_filter_le _ _
theorem cl_lt {ms : List Int} {n : Nat} {b : Bar} : ∀ s ∈ clM ms n b, s.1 < n := fun s hs => (mem_cl.mp hs).1
theorem cl_sub {ms : List Int} {n : Nat} {b : Bar} (hb : ∀ s ∈ b, s.1 < n) : ∀ s ∈ b, s ∈ clM ms n b := fun s hs => mem_cl.mpr ⟨hb s hs, fun m _ h => List.all_eq_true.mp h s hs⟩
theorem all_met {m : Int} {b : Bar} : b.all (met m) = true ↔ ∀ s ∈ b, met m s = true := by
  rw [List.all_eq_true]
theorem cl_between {ms : List Int} {n : Nat} {b r : Bar} (h1 : ∀ s ∈ b, s ∈ r) (h2 : ∀ s ∈ r, s ∈ clM ms n b) : clM ms n r = clM ms n b ∧ canM ms r = canM ms b := by
  have e : ∀ m ∈ ms, r.all (met m) = b.all (met m) := fun m hm => by
    rw [Bool.eq_iff_iff, all_met, all_met]
    exact ⟨fun h s hs => h s (h1 s hs), fun h s hs => (mem_cl.mp (h2 s hs)).2 m hm (all_met.mpr h)⟩
  refine ⟨?_, ?_⟩
  · unfold clM
    rw [filt_congr (f := fun m => r.all (met m)) (g := fun m => b.all (met m)) e]
  · rw [Bool.eq_iff_iff, canM_iff, canM_iff]
    constructor
    · rintro ⟨m, hm, q⟩
      exact ⟨m, hm, fun s hs => q s (h1 s hs)⟩
    · rintro ⟨m, hm, q⟩
      exact ⟨m, hm, fun s hs => (mem_cl.mp (h2 s hs)).2 m hm (all_met.mpr q)⟩
theorem cl_up {ms : List Int} {n : Nat} {b : Bar} (hc : canM ms b = true) : UpB (clM ms n b) := by
  obtain ⟨m, hm, hm2⟩ := can_all hc
  unfold UpB
  refine (List.Pairwise.and_mem.mp (cl_pw ms n b)).imp ?_
  rintro s t ⟨hs, ht, h | ⟨h1, h2, h3⟩⟩
  · exact h
  · exfalso
    have a1 := (mem_cl.mp hs).2 m hm hm2
    have a2 := (mem_cl.mp ht).2 m hm hm2
    unfold met at a1 a2
    rw [beq_iff_eq] at a1 a2
    rw [h1, a2, h3, h2] at a1
    cases a1
theorem cl_part {ms : List Int} {n : Nat} {b : Bar} (hn : n ≤ 6) (hc : canM ms b = true) : partP n (clM ms n b) := ⟨by have := cl_len ms n b; omega, cl_lt, cl_up hc⟩
theorem shut_mem {n : Nat} {ms : List Int} (h : Shut n ms) (m : Int) : m ∈ ms ↔ Mem n ms m := by
  have := @mem_reach n ms m
  rw [h.2] at this
  exact this
theorem joint_iff {n : Nat} {ms : List Int} {b : Bar} (h : Shut n ms) (hb : ∀ s ∈ b, s.1 < n) (hc : canM ms b = true) {s : Sgn} : s ∈ clM ms n b ↔ s ∈ clM ms n [] ∨ ∃ t ∈ b, s ∈ clM ms n [t] := by
  constructor
  · intro hs
    refine Classical.byContradiction fun c => ?_
    have hsn := (mem_cl.mp hs).1
    have c1 : ¬ s ∈ clM ms n [] := fun q => c (.inl q)
    have c2 : ∀ t ∈ b, ¬ s ∈ clM ms n [t] := fun t ht q => c (.inr ⟨t, ht, q⟩)
    have no : ∀ {g : Bar}, ¬ s ∈ clM ms n g → ∃ m ∈ ms, g.all (met m) = true ∧ met m s = false := fun {g} q => by
      refine Classical.byContradiction fun d => q (mem_cl.mpr ⟨hsn, fun m hm ha => ?_⟩)
      cases e : met m s with
      | true => rfl
      | false => exact absurd ⟨m, hm, ha, e⟩ d
    obtain ⟨m0, hm0, _, q0⟩ := no c1
    obtain ⟨mb, hmb, hmb2⟩ := can_all hc
    have all := List.all_eq_true.mp hmb2
    have flip : ∀ {m : Int}, met m s = false → met m (neg s) = true := fun h => by rw [met_neg, h]; rfl
    have mem := shut_mem h
    obtain ⟨m, hm, q⟩ := helly ⟨m0, (mem m0).mp hm0⟩ (neg s :: b).length (neg s :: b) (Nat.le_refl _) (fun k hk => by
      rcases List.mem_cons.mp hk with rfl | hk
      · exact hsn
      · exact hb k hk) fun x hx y hy => by
        rcases List.mem_cons.mp hx with rfl | hx
        · rcases List.mem_cons.mp hy with rfl | hy
          · exact ⟨m0, (mem m0).mp hm0, flip q0, flip q0⟩
          · obtain ⟨m, hm, q1, q2⟩ := no (c2 y hy)
            exact ⟨m, (mem m).mp hm, flip q2, List.all_eq_true.mp q1 y List.mem_cons_self⟩
        · rcases List.mem_cons.mp hy with rfl | hy
          · obtain ⟨m, hm, q1, q2⟩ := no (c2 x hx)
            exact ⟨m, (mem m).mp hm, List.all_eq_true.mp q1 x List.mem_cons_self, flip q2⟩
          · exact ⟨mb, (mem mb).mp hmb, all x hx, all y hy⟩
    have h1 := (mem_cl.mp hs).2 m ((mem m).mpr hm) (List.all_eq_true.mpr fun k hk => q k (List.mem_cons_of_mem _ hk))
    have h2 := q (neg s) List.mem_cons_self
    rw [met_neg, h1] at h2
    cases h2
  · intro q
    rcases q with q | ⟨t, ht, q⟩
    · exact mem_cl.mpr ⟨(mem_cl.mp q).1, fun m hm _ => (mem_cl.mp q).2 m hm rfl⟩
    · refine mem_cl.mpr ⟨(mem_cl.mp q).1, fun m hm ha => (mem_cl.mp q).2 m hm ?_⟩
      refine List.all_eq_true.mpr fun x hx => ?_
      rw [List.mem_singleton.mp hx]
      exact List.all_eq_true.mp ha t ht
theorem can_pairs {n : Nat} {ms : List Int} {b : Bar} (h : Shut n ms) (hb : ∀ s ∈ b, s.1 < n) (q : ∀ x ∈ b, ∀ y ∈ b, canM ms [x, y] = true) : canM ms b = true := by
  have mem := shut_mem h
  obtain ⟨m0, hm0⟩ := List.exists_mem_of_ne_nil ms h.1.2.1
  obtain ⟨m, hm, q2⟩ := helly ⟨m0, (mem m0).mp hm0⟩ b.length b (Nat.le_refl _) hb fun x hx y hy => by
    obtain ⟨m, hm, q1⟩ := canM_iff.mp (q x hx y hy)
    exact ⟨m, (mem m).mp hm, q1 x List.mem_cons_self, q1 y (List.mem_cons_of_mem _ List.mem_cons_self)⟩
  exact canM_iff.mpr ⟨m, (mem m).mpr hm, q2⟩
theorem can_swap (ms : List Int) (x y : Sgn) : canM ms [x, y] = canM ms [y, x] := by
  rw [Bool.eq_iff_iff]
  constructor <;> intro h <;> refine canM_sub h fun s hs => ?_ <;> simp only [List.mem_cons, List.not_mem_nil, or_false] at hs ⊢ <;> exact hs.symm
/-! one literal more -/
theorem wider_can {n : Nat} {ms : List Int} {b W : Bar} {s : Sgn} (hs : s.1 < n) (pm : W.Perm (b ++ [s])) : canM ms W = !decide (neg s ∈ clM ms n b) := by
  rw [Bool.eq_iff_iff, Bool.not_eq_true', decide_eq_false_iff_not, canM_iff, mem_cl]
  constructor
  · rintro ⟨m, hm, q⟩ ⟨_, q2⟩
    have h1 := q2 m hm (all_met.mpr fun t ht => q t (pm.mem_iff.mpr (List.mem_append_left _ ht)))
    rw [met_neg, q s (pm.mem_iff.mpr (List.mem_append_right _ List.mem_cons_self))] at h1
    cases h1
  · intro c
    refine Classical.byContradiction fun d => c ⟨hs, fun m hm ha => ?_⟩
    cases e : met m (neg s) with
    | true => rfl
    | false =>
      refine absurd ⟨m, hm, fun t ht => ?_⟩ d
      rcases List.mem_append.mp (pm.mem_iff.mp ht) with ht | ht
      · exact all_met.mp ha t ht
      · rw [List.mem_singleton.mp ht]
        rw [met_neg, Bool.not_eq_false'] at e
        exact e
theorem wider_sub {n : Nat} {ms : List Int} {b W : Bar} {s : Sgn} (hs : s.1 < n) (pm : W.Perm (b ++ [s])) : (∀ t ∈ clM ms n b, t ∈ clM ms n W) ∧ s ∈ clM ms n W := by
  refine ⟨fun t ht => mem_cl.mpr ⟨(mem_cl.mp ht).1, fun m hm ha => (mem_cl.mp ht).2 m hm (all_met.mpr fun u hu => all_met.mp ha u (pm.mem_iff.mpr (List.mem_append_left _ hu)))⟩, mem_cl.mpr ⟨hs, fun m hm ha => all_met.mp ha s (pm.mem_iff.mpr (List.mem_append_right _ List.mem_cons_self))⟩⟩
theorem wider_eq {n : Nat} {ms : List Int} {b W : Bar} {s : Sgn} (hb : ∀ t ∈ b, t.1 < n) (pm : W.Perm (b ++ [s])) (h : s ∈ clM ms n b) : clM ms n W = clM ms n b := by
  refine (cl_between (fun t ht => pm.mem_iff.mpr (List.mem_append_left _ ht)) fun t ht => ?_).1
  rcases List.mem_append.mp (pm.mem_iff.mp ht) with ht | ht
  · exact cl_sub hb t ht
  · rw [List.mem_singleton.mp ht]
    exact h
theorem why_none {n : Nat} {ms : List Int} {b : Bar} {s : Sgn} (h : Shut n ms) (hb : ∀ k ∈ b, k.1 < n) (hc : canM ms b = true) : (whyM ms n b s).isNone = !decide (s ∈ clM ms n b) := by
  unfold whyM
  by_cases c : s ∈ clM ms n b
  · rw [if_pos c, decide_eq_true c]
    by_cases d : s ∈ b
    · rw [if_pos d]
      rfl
    · rw [if_neg d]
      obtain ⟨r, e⟩ := why_found h hb hc c d
      rw [e]
      rfl
  · rw [if_neg c, decide_eq_false c]
    rfl
end TW
set_option Elab.async false
set_option linter.all false
set_option maxRecDepth 100000
set_option maxHeartbeats 4000000
namespace TW
open PySem PySem.Spec PyProof.Rows L2
section
variable {P : Program} {w : World} {K : PySem.W.Frag} {mg : Str → Option Value} {base : Heap} {C N NC : Addr}
/-! _law_pairs_can -/
abbrev NPC : List Str := ["book", "told", "one", "two", "k"]
theorem sc_law_pairs_can : FnScope NPC ["book", "told"] (defScope s__law_pairs_can) := ⟨rfl, rfl, rfl, by decide +kernel, rfl, by decide +kernel, by decide +kernel⟩
def spPairsCan (C : Addr) : Sp := fun vs H Q _ => ∃ (G : Hp) (l : List (Addr × HO)) (a : Addr) (n : Nat) (L : Lots) (ms : List Int) (v : V) (b : Bar), vs = [.ref a, v] ∧ Has G H l ∧ TabAt C G a n L ∧ TabOf n ms L ∧ 0 < n ∧ n ≤ 6 ∧ Shut n ms ∧ At G v (dBar b) ∧ partP n b ∧
  ∀ H', Has G H' l → Q (.bl (canM ms b)) H'
theorem ok_pairs_can (D : Dfn K mg "_law_pairs_can" s__law_pairs_can ["book", "told"]) (z : Z mg) (O_can_be : Ok P w K mg base 8 "can_be" ["table", "part"] (spCanBe C)) : Ok P w K mg base 9 "_law_pairs_can" ["book", "told"] (spPairsCan C) := D.ok fun f fd F => by
  refine F.ok sc_law_pairs_can (fun vs H Q E h => ?_) (fun cdv A outer sh H vs Q E hr h => ?_)
  · obtain ⟨G, l, a, n, L, ms, v, b, rfl, _⟩ := h
    rfl
  · obtain ⟨G, l, a, n, L, ms, v, b, rfl, S, tab, htab, hn, hn6, hS, hv, ⟨lb, bb, ub⟩, q⟩ := h
    obtain ⟨p, ys, rfl, hp, hy⟩ := hv.bar
    have ly : ys.length = b.length := by rw [hy.1, List.length_map]
    have hL := lots_ok htab hn6
    have lL := lots_le htab hS.1 hn hn6
    have are := tabOf_are htab
    refine ⟨_, (pss_cons (ps_for PassesOwn.never rfl (pi_range1 (by rfl) z.range (pa_cons (pe_callB call_len_seq (by rfl) z.len PySem.boot_len (pa_cons (pv 1) pa_nil)) pa_nil)) (pg_name (i := 2) sc_law_pairs_can.nd rfl (Or.inr rfl))
      (pss_one (ps_for PassesOwn.never rfl (pi_range2 (by rfl) z.range (pa_cons (pv 2) (pa_cons (pe_callB call_len_seq (by rfl) z.len PySem.boot_len (pa_cons (pv 1) pa_nil)) pa_nil))) (pg_name (i := 3) sc_law_pairs_can.nd rfl (Or.inr rfl))
      (pss_one (ps_if (pt_not (pt_val (pe_o O_can_be hr (pa_cons (pv 0) (pa_cons (pe_callTy call_tuple_of (by rfl) z.tuple (by decide +kernel) (pa_cons (pe_lc (own := [("k", 4)]) (g := gName 4) rfl sc_law_pairs_can.nd (pi_range1 (by rfl) z.range (pa_cons (pe_callB call_len_seq (by rfl) z.len PySem.boot_len (pa_cons (pv 1) pa_nil)) pa_nil)) (blkOk_by (N := NPC) (own := [("k", 4)]) (sc := defScope s__law_pairs_can) (by decide +kernel)) (fun _ _ _ _ _ => pg_name (i := 4) sc_law_pairs_can.nd rfl (Or.inl rfl)) (fun _ _ _ _ _ => pts_one (pt_cmpR (op_inK (K := K)) (pv 4) (pe_lst (pa_cons (pv 2) (pa_cons (pv 3) pa_nil))) (by rfl))) (fun _ _ _ _ _ => (pe_ix (ix_any (K := K)) (pv 1) (pv 4) (fun _ _ => rfl)))) pa_nil)) pa_nil))))) (pss_one (ps_ret pe_bl)) pss_nil)))))
      (pss_one (ps_ret pe_bl))), ?_⟩
    refine ⟨_, rfl, p, ys, rfl, .inr (Evl.st_of (S.ex _ _ hp)), b.length, by rw [ly], by omega, by omega, ?_⟩
    rw [show ((b.length : Nat) : Int).toNat = b.length by omega]
    refine for_range (lo := 0) (n := b.length) (fun i σ H' => ∃ (v2 v3 v4 : Option V), σ = [some (.ref a), some (.ref p), v2, v3, v4] ∧ Has G H' l ∧ ∀ i' j x y, i' < i → i' ≤ j → b[i']? = some x → b[j]? = some y → canM ms [x, y] = true) ⟨none, none, none, rfl, S, fun i' j x y h => absurd h (Nat.not_lt_zero _)⟩ ?_ ?_
    · rintro i σ H2 hi ⟨v2, v3, v4, rfl, S2, inv⟩
      rw [Int.zero_add]
      refine ⟨_, rfl, _, rfl, p, ys, rfl, .inr (Evl.st_of (S2.ex _ _ hp)), (i : Int), (b.length : Int), by rw [ly], ⟨by omega, by omega, by omega, by omega⟩, ?_⟩
      rw [show ((b.length : Int) - (i : Int)).toNat = b.length - i by omega]
      refine for_range (lo := (i : Int)) (n := b.length - i) (fun j σ H' => ∃ (v3 v4 : Option V), σ = [some (.ref a), some (.ref p), some (.int i), v3, v4] ∧ Has G H' l ∧ ∀ j' x y, j' < j → b[i]? = some x → b[i + j']? = some y → canM ms [x, y] = true) ⟨v3, v4, rfl, S2, fun j' x y h => absurd h (Nat.not_lt_zero _)⟩ ?_ ?_
      · rintro j σ H3 hj ⟨v3, v4, rfl, S3, inw⟩
        rw [show (i : Int) + (j : Int) = ((i + j : Nat) : Int) by omega]
        obtain ⟨x, hx⟩ : ∃ x, b[i]? = some x := ⟨_, List.getElem?_eq_getElem hi⟩
        obtain ⟨y, hy'⟩ : ∃ y, b[i + j]? = some y := ⟨_, List.getElem?_eq_getElem (show i + j < b.length by omega)⟩
        refine ⟨_, rfl, _, rfl, p, ys, rfl, .inr (Evl.st_of (S3.ex _ _ hp)), b.length, by rw [ly], by omega, by omega, fun Dl nD => ?_⟩
        rw [show ((b.length : Nat) : Int).toNat = b.length by omega]
        refine lc_range (lo := 0) (n := b.length) (fun k H' => ∃ (zs : List V) (g : Bar), Has G H' ((Dl, .lst zs) :: l) ∧ Ats G zs (g.map dSgn) ∧ g.Sublist (b.take k) ∧ (∀ s ∈ g, s = x ∨ s = y) ∧ (i < k → x ∈ g) ∧ (i + j < k → y ∈ g)) ⟨[], [], S3.new nD, .nil, List.nil_sublist _, fun s hs => absurd hs List.not_mem_nil, fun h => absurd h (Nat.not_lt_zero _), fun h => absurd h (Nat.not_lt_zero _)⟩ ?_ ?_
        · rintro k H4 hk ⟨zs, g, S4, hz, hg, hg2, hg3, hg4⟩
          rw [Int.zero_add]
          obtain ⟨c, hc⟩ : ∃ c, b[k]? = some c := ⟨_, List.getElem?_eq_getElem hk⟩
          obtain ⟨w', hw', aw⟩ := hy.at_ (i := k) (d := dSgn c) (by rw [List.getElem?_map, hc]; rfl)
          have lz : zs.length ≤ 100 := by
            have := hg.length_le
            rw [List.length_take] at this
            rw [hz.1, List.length_map]
            omega
          have lz2 : zs.length ≤ k := by
            have := hg.length_le
            rw [List.length_take] at this
            rw [hz.1, List.length_map]
            omega
          refine ⟨rfl, _, rfl, _, rfl, _, rfl, sz (by show 2 ≤ 100000; decide), fun u nu => ?_⟩
          have S5 := S4.new (o := .lst [.int i, .int (i + j : Nat)]) nu
          refine ⟨u, ([(i : Int), ((i + j : Nat) : Int)]).map V.int, rfl, .inl (Evl.sq_of (S5.get 0 rfl)), rfl, rfl, _, rfl, ?_⟩
          rw [inV_int]
          cases hq : decide ((k : Int) ∈ [(i : Int), ((i + j : Nat) : Int)]) with
          | true =>
            have hq' : k = i ∨ k = i + j := by
              have := of_decide_eq_true hq
              simp only [List.mem_cons, List.not_mem_nil, or_false] at this
              omega
            refine ⟨_, rfl, _, rfl, .inr ⟨p, ys, (k : Int), w', rfl, rfl, Evl.st_of (S5.ex _ _ hp), atI_nat (j := k) hw', ?_⟩⟩
            refine ⟨zs, S5.get 1 rfl, szl (by omega), zs ++ [w'], g ++ [c], S5.tail.set 0 rfl, ?_, ?_, fun s hs => ?_, fun h => ?_, fun h => ?_⟩
            · rw [List.map_append]
              exact hz.snoc aw
            · rw [take_snoc hc]
              exact hg.append (List.Sublist.refl _)
            · rcases List.mem_append.mp hs with hs | hs
              · exact hg2 s hs
              · rw [List.mem_singleton.mp hs]
                rcases hq' with e | e
                · subst e
                  rw [hx] at hc
                  exact .inl (Option.some.inj hc).symm
                · subst e
                  rw [hy'] at hc
                  exact .inr (Option.some.inj hc).symm
            · by_cases e : i < k
              · exact List.mem_append_left _ (hg3 e)
              · have e : i = k := by omega
                subst e
                rw [hx] at hc
                exact List.mem_append_right _ (List.mem_singleton.mpr (Option.some.inj hc))
            · by_cases e : i + j < k
              · exact List.mem_append_left _ (hg4 e)
              · have e : i + j = k := by omega
                subst e
                rw [hy'] at hc
                exact List.mem_append_right _ (List.mem_singleton.mpr (Option.some.inj hc))
          | false =>
            have hq' : ¬ (k = i ∨ k = i + j) := fun e => by
              have := of_decide_eq_false hq
              apply this
              simp only [List.mem_cons, List.not_mem_nil, or_false]
              omega
            exact ⟨zs, g, S5.tail, hz, by rw [take_snoc hc]; exact hg.trans (List.sublist_append_left _ _), hg2, fun h => hg3 (by omega), fun h => hg4 (by omega)⟩
        · rintro H4 ⟨zs, g, S4, hz, hg, hg2, hg3, hg4⟩
          rw [List.take_length] at hg
          refine ⟨Dl, zs, rfl, .inl ⟨Evl.sq_of (S4.get 0 rfl), fun tt ntt => ?_⟩⟩
          have S5 := S4.tail.new (o := .tup zs) ntt
          have lg := hg.length_le
          have gb : ∀ s ∈ g, s.1 < n := fun s hs => bb s (hg.subset hs)
          have ug : UpB g := List.Pairwise.sublist hg ub
          refine ⟨a, n, L, .ref tt, g, rfl, tab.ex S5.ex, hL, by omega, At.mkT (S5.get 0 rfl) (hz.ex S5.ex), by omega, ins_of gb, upB_asc ug, fun H6 e6 => ?_⟩
          rw [can_eq are gb]
          have S6 := (S5.go e6).tail
          have eg : canM ms g = canM ms [x, y] := by
            rw [Bool.eq_iff_iff]
            constructor <;> intro h <;> refine canM_sub h fun s hs => ?_
            · simp only [List.mem_cons, List.not_mem_nil, or_false] at hs
              rcases hs with rfl | rfl
              · exact hg3 hi
              · exact hg4 (by omega)
            · simp only [List.mem_cons, List.not_mem_nil, or_false]
              exact hg2 s hs
          rw [eg]
          cases hq : canM ms [x, y] with
          | true =>
            refine ⟨_, rfl, ?_⟩
            refine ⟨_, _, rfl, S6, fun j' x' y' h1 h2 h3 => ?_⟩
            by_cases e : j' < j
            · exact inw j' x' y' e h2 h3
            · have e : j' = j := by omega
              subst e
              rw [hx] at h2
              rw [hy'] at h3
              rw [← Option.some.inj h2, ← Option.some.inj h3]
              exact hq
          | false =>
            have hcf : canM ms b = false := by
              cases e : canM ms b with
              | false => rfl
              | true =>
                have := canM_sub (g := [x, y]) e (fun s hs => by
                  simp only [List.mem_cons, List.not_mem_nil, or_false] at hs
                  rcases hs with rfl | rfl
                  · exact List.mem_of_getElem? hx
                  · exact List.mem_of_getElem? hy')
                rw [hq] at this
                cases this
            rw [hcf] at q
            exact ⟨_, rfl, q H6 S6⟩
      · rintro σ H3 ⟨v3, v4, rfl, S3, inw⟩
        refine ⟨_, _, _, rfl, S3, fun i' j x y h1 h2 h3 h4 => ?_⟩
        by_cases e : i' < i
        · exact inv i' j x y e h2 h3 h4
        · have e : i' = i := by omega
          subst e
          have hj : j < b.length := (List.getElem?_eq_some_iff.mp h4).1
          refine inw (j - i') x y (by omega) h3 ?_
          rw [show i' + (j - i') = j by omega]
          exact h4
    · rintro σ H2 ⟨v2, v3, v4, rfl, S2, inv⟩
      have hc : canM ms b = true := can_pairs hS bb fun x hx y hy => by
        obtain ⟨i, hi⟩ := List.mem_iff_getElem?.mp hx
        obtain ⟨j, hj⟩ := List.mem_iff_getElem?.mp hy
        have hi1 := (List.getElem?_eq_some_iff.mp hi).1
        have hj1 := (List.getElem?_eq_some_iff.mp hj).1
        by_cases e : i ≤ j
        · exact inv i j x y hi1 e hi hj
        · rw [can_swap]
          exact inv j i y x hj1 (by omega) hj hi
      rw [hc] at q
      exact q H2 S2
end
end TW
set_option Elab.async false
set_option linter.all false
set_option maxRecDepth 100000
set_option maxHeartbeats 4000000
/-! sorted of a tuple of data -/
namespace TW
open PySem PySem.Spec PyProof.Rows L2
open PySem.W (EachIs AllAlike Sortable dataLt dataLe dataKind)
def rSortTE (K : PySem.W.Frag) : List V → Hp → VK → Prop := fun vs H Q => ∃ (a : Addr) (bs : List (V × PyData)), vs = [.ref a] ∧ SqT K H a (bs.map (·.1)) ∧ (∀ b ∈ bs, Dp K H b.1 b.2) ∧ AllAlike (bs.map (·.2)) ∧ Sortable (bs.map (·.2)) ∧ (∀ b ∈ bs, b.2.depth ≤ 20) ∧
  ∀ p : Addr, H p = none → Q (.ref p) (upd H p (.lst ((bs.mergeSort (dataLe false (·.2))).map (·.1))))
section
variable {X : Cx} {K : PySem.W.Frag}
theorem cr_sortT (hu : X.A.units + 64 < cLine) (hK : X.K = K := by rfl) : CallR X (.builtin "sorted") (rSortTE K) := by
  subst hK
  intro pins s σ H vs us Q I r h
  obtain ⟨a, bs, rfl, hs, hd, hal, hso, hdep, q⟩ := h
  obtain ⟨its, rv, ⟨o, ho, hc, n, hdt⟩, hz⟩ := I.tuple hs
  rw [Vals.ref1 r]
  have lz : its.length = bs.length := by rw [← rv.length, List.length_map]
  have lz2 : its.length ≤ sizeLine := by rw [lz, ← List.length_map (f := (·.1))]; exact hz
  have e := each_of_vals rv
  refine Calls.call_function_entry kind_sorted plain_sorted entry_sorted (args_sorted1 _) ?_
  unfold Builtin.«sorted»
  refine wpAny_bind (m := checkCount "sorted" 1 1 _) (wpAny_pure ?_)
  refine wpAny_bind (wpAny_collect_seq a (.inr rfl) ho hc hdt (fun h' hk => ?_) (by rw [List.size_toArray]; exact lz2))
  rw [show its.toArray.toList = its by simp]
  have I1 := I.kept (t' := s.toks) hk
  refine wpAny_bind (wpAny_newList ?_ lz2)
  have at1 : (h'.push (seqObj "list" its.toArray 0)).get? h'.objs.size = some (seqObj "list" its.toArray 0) := Heap.get?_push_size _ rfl
  have keep1 : ∀ b u, h'.get? b = some u → (h'.push (seqObj "list" its.toArray 0)).get? b = some u := fun b u e => Heap.get?_push_of_some _ e
  generalize hg : h'.push (seqObj "list" its.toArray 0) = g at at1 keep1 ⊢
  have keep2 : ∀ b u, h'.get? b = some u → (PySem.W.sortingHeap g h'.objs.size its).get? b = some u := fun b u e =>
    PySem.W.sortingHeap_old (Nat.ne_of_lt (Heap.lt_size e)) (keep1 b u e)
  have er : EachIs (fun v (b : V × PyData) => ∃ as, Reads (PySem.W.sortingHeap g h'.objs.size its) v b.2 as) its bs := by
    have e2 := PySem.W.each_mem e
    refine e2.mono fun v b z => ?_
    obtain ⟨as, r⟩ := Dp.reads I1 b.2 b.1 v (hd b z.2) z.1
    exact ⟨as, PyProof.Rows.Reads.keeps (fun _ _ => keep2 _ _) r⟩
  have em := PySem.W.each_map (R := fun v d => ∃ as, Reads (PySem.W.sortingHeap g h'.objs.size its) v d as) (fun b : V × PyData => b.2) er
  have S : PySem.W.SortsAt X.prog X.w X.A.in1.in1 { s with heap := PySem.W.sortingHeap g h'.objs.size its } (dataKind (PySem.W.sortingHeap g h'.objs.size its) (bs.map (·.2))) its := by
    refine PySem.W.SortsAt.data em hal hso fun d hd1 => ?_
    obtain ⟨b, hb, rfl⟩ := List.mem_map.mp hd1
    have := hdep b hb
    show X.A.units + 1 + 1 + b.2.depth < cLine
    omega
  have eo := PySem.W.sortVals_data (h' := PySem.W.sortingHeap g h'.objs.size its) (enc := fun b : V × PyData => b.2) false e er hal
  refine wpAny_bind (wpAny_holding (wpAny_call_entry slot_list_sort ⟨_, at1, rfl⟩ entry_list_sort (PySem.W.list_sort_vals at1 S lz2 ⟨_, rfl, ?_⟩) (args_list_sort _)))
  generalize PySem.W.sortVals (dataKind (PySem.W.sortingHeap g h'.objs.size its) (bs.map (·.2))) false its its = out at eo
  obtain ⟨c, hc2⟩ := sortedHeap_at (vs := its) (out := out.toArray) at1
  have pm : (bs.mergeSort (dataLe false (·.2))).Perm bs := List.mergeSort_perm bs _
  have hlen : ((bs.mergeSort (dataLe false (·.2))).map (·.1)).length ≤ sizeLine := by
    rw [List.length_map, pm.length_eq, ← lz]
    exact lz2
  refine wpAny_pure ⟨_, rfl, .ref _, upd H h'.objs.size (.lst ((bs.mergeSort (dataLe false (·.2))).map (·.1))), I1.laid (t' := s.toks) (fun b u e => ?_) (Nat.le_refl _) ⟨hlen, out, c, vals_of_each eo, hc2⟩, rfl, q _ (I1.hok.fresh (Nat.le_refl _))⟩
  have q := keep1 b u e
  change (sortedHeap g h'.objs.size _ _).get? b = some u
  rw [sortedHeap_old (Nat.ne_of_lt (Heap.lt_size e)) (Heap.lt_size q)]
  exact q
/-! the rules of hand, their K apart -/
theorem op_neDK (hu : X.A.units + 64 < cLine) (h : X.K = K := by rfl) : OpR X (compareOp .NotEq) (rNeD K) := by
  subst h
  exact op_neD hu
end
end TW
set_option Elab.async false
set_option linter.all false
set_option maxRecDepth 100000
set_option maxHeartbeats 4000000
namespace TW
open PySem PySem.Spec PyProof.Rows L2
theorem shaped_listB (b : Bar) : SeqAt.shaped (.list (b.map dSgn)) = true := by
  have h := shaped_bar b
  unfold SeqAt.shaped at h ⊢
  have e : (PyData.list (b.map dSgn)).depth = (dBar b).depth := by
    unfold dBar
    simp [PyData.depth]
  rw [e]
  exact h
theorem nodup_len {α : Type} [DecidableEq α] : ∀ {xs ys : List α}, xs.Nodup → (∀ x ∈ xs, x ∈ ys) → xs.length ≤ ys.length
  | [], _, _, _ => Nat.zero_le _
  | x :: xs, ys, hn, hs => by
    have c := List.nodup_cons.mp hn
    have hx := hs x List.mem_cons_self
    have h1 := nodup_len (xs := xs) (ys := ys.erase x) c.2 fun y hy => (List.mem_erase_of_ne (fun e => c.1 (by rw [← e]; exact hy))).mpr (hs y (List.mem_cons_of_mem _ hy))
    have h2 := List.length_erase_of_mem hx
    have h3 := List.length_pos_of_mem hx
    rw [List.length_cons]
    omega
theorem joint_len {n : Nat} {J : Bar} (nd : J.Nodup) (h : ∀ s ∈ J, s.1 < n) : J.length ≤ 2 * n := by
  rw [← allS_len n]
  exact nodup_len nd fun s hs => mem_allS.mpr (h s hs)
section
variable {P : Program} {w : World} {K : PySem.W.Frag} {mg : Str → Option Value} {base : Heap} {C N NC : Addr}
/-- the closure of a part that can be in the table -/
theorem use_cl {Q : VK} {E : XK} {G H : Hp} {l : List (Addr × HO)} {a : Addr} {n : Nat} {L : Lots} {ms : List Int} {v : V} {b : Bar} (S : Has G H l) (tab : TabAt C G a n L) (htab : TabOf n ms L) (hn : 0 < n) (hn6 : n ≤ 6) (hS : Shut n ms) (hv : At G v (dBar b)) (pb : partP n b) (hc : canM ms b = true)
    (q : ∀ (G' H' : Hp) (x : V), Ex G G' → Has G' H' l → At G' x (dBar (clM ms n b)) → Q x H') : spClosure C N [.ref a, v] H Q E := by
  obtain ⟨lb, bb, ub⟩ := pb
  have lL := lots_le htab hS.1 hn hn6
  obtain ⟨f1, f2⟩ := fit_eq (tabOf_are htab) bb
  refine ⟨G, l, a, n, L, v, b, rfl, S, tab, lots_ok htab hn6, by omega, by omega, hv, by omega, ins_of bb, upB_asc ub, fun h0 => ?_, fun _ G' H' x e S' ax => q G' H' x e S' (by rw [f1] at ax; exact ax)⟩
  have := f2.mp h0
  rw [hc] at this
  cases this
/-! _law_joint -/
abbrev NJ : List Str := ["book", "told", "out", "sign", "more"]
theorem sc_law_joint : FnScope NJ ["book", "told"] (defScope s__law_joint) := ⟨rfl, rfl, rfl, by decide +kernel, rfl, by decide +kernel, by decide +kernel⟩
def spJoint (C : Addr) : Sp := fun vs H Q _ => ∃ (G : Hp) (l : List (Addr × HO)) (a : Addr) (n : Nat) (L : Lots) (ms : List Int) (v : V) (b : Bar), vs = [.ref a, v] ∧ Has G H l ∧ TabAt C G a n L ∧ TabOf n ms L ∧ 0 < n ∧ n ≤ 6 ∧ Shut n ms ∧ At G v (dBar b) ∧ partP n b ∧ canM ms b = true ∧
  ∀ (G' H' : Hp) (x : V), Ex G G' → Has G' H' l → At G' x (dBar (clM ms n b)) → Q x H'
theorem ok_joint {fc : Addr} {fcd : FuncData} (D : Dfn K mg "_law_joint" s__law_joint ["book", "told"]) (z : Z mg) (RC : FnOk P w K mg base (L2.CX P w) 8 fc fcd ["table", "part"] (spClosure C N)) (gC : mg "closure" = some (.ref fc)) (kC : PySem.W.keepIn K (.ref fc) = true) (bC : Binds K fcd ["table", "part"] []) :
    Ok P w K mg base 9 "_law_joint" ["book", "told"] (spJoint C) := D.ok fun f fd F => by
  refine F.ok sc_law_joint (fun vs H Q E h => ?_) (fun cdv A outer sh H vs Q E hr h => ?_)
  · obtain ⟨G, l, a, n, L, ms, v, b, rfl, _⟩ := h
    rfl
  · obtain ⟨G, l, a, n, L, ms, v, b, rfl, S, tab, htab, hn, hn6, hS, hv, ⟨lb, bb, ub⟩, hc, q⟩ := h
    obtain ⟨p, ys, rfl, hp, hy⟩ := hv.bar
    have ly : ys.length = b.length := by rw [hy.1, List.length_map]
    have hu65 : (A.deeper (envOfC "_law_joint" (defScope s__law_joint) sh.heap.objs.size f cdv)).units + 65 < cLine := by
      have := hr.un
      omega
    refine ⟨_, (pss_cons (ps_set (i := 2) sc_law_joint.nd rfl (Or.inr rfl) (pe_callTy call_list_of (by rfl) z.list (by decide +kernel) (pa_cons (pe_call RC hr (by rfl) gC kC bC .nil passL (pa_cons (pv 0) (pa_cons (pe_tup pa_nil) pa_nil))) pa_nil)))
      (pss_cons (ps_for PassesOwn.never rfl (pi_tup (pv 1)) (pg_name (i := 3) sc_law_joint.nd rfl (Or.inl rfl))
      (pss_one (ps_set (i := 2) sc_law_joint.nd rfl (Or.inr rfl) (pe_op op_cat (pv 2) (pe_lc (own := [("more", 4)]) (g := gName 4) rfl sc_law_joint.nd (pi_tup (pe_call RC hr (by rfl) gC kC bC .nil passL (pa_cons (pv 0) (pa_cons (pe_tup (pa_cons (pv 3) pa_nil)) pa_nil)))) (blkOk_by (N := NJ) (own := [("more", 4)]) (sc := defScope s__law_joint) (by decide +kernel)) (fun _ _ _ _ _ => pg_name (i := 4) sc_law_joint.nd rfl (Or.inl rfl)) (fun _ _ _ _ _ => pts_one (pt_cmpR (op_notInDK (K := K) hu65) (pv 4) (pv 2) (by rfl))) (fun _ _ _ _ _ => (pv 4)))))))
      (pss_one (ps_ret (pe_callTy call_tuple_of (by rfl) z.tuple (by decide +kernel) (pa_cons (pe_callB (cr_sortE (K := K) hr.units) (by rfl) z.sorted (by decide +kernel) (pa_cons (pv 2) pa_nil)) pa_nil)))))), ?_⟩
    refine ⟨_, rfl, sz (by show 0 ≤ 100000; decide), fun u nu => ?_⟩
    have S1 := S.new (o := .tup []) nu
    have a1 : At (upd G u (.tup [])) (.ref u) (dBar []) := At.mkT upd_same .nil
    have p0 : partP n [] := ⟨Nat.zero_le _, fun s hs => absurd hs List.not_mem_nil, List.Pairwise.nil⟩
    have c0 : canM ms [] = true := canM_sub hc fun s hs => absurd hs List.not_mem_nil
    refine use_cl S1.sink (tab.ex S1.exS) htab hn hn6 hS a1 p0 c0 fun G2 H2 x e2' S2 ax => ?_
    have e2 := S1.exS.trans e2'
    obtain ⟨t, zs0, rfl, ht, hz0⟩ := ax.bar
    refine ⟨t, zs0, rfl, .inr (Evl.st_of (S2.ex _ _ ht)), fun l1 nl1 => ?_⟩
    have S3 := S2.new (o := .lst zs0) nl1
    generalize upd H2 l1 (.lst zs0) = H3 at S3
    have hp2 := e2 _ _ hp
    have hy2 := hy.ex e2
    refine ⟨_, rfl, p, rfl, ⟨_, Evl.st_of (S3.ex _ _ hp2)⟩, for_tup (K := K) (a := p) (xs := ys) (fun i σ H' => ∃ (v3 v4 : Option V) (G' : Hp) (lo : Addr) (zs : List V) (J : Bar), σ = [some (.ref a), some (.ref p), some (.ref lo), v3, v4] ∧ Ex G2 G' ∧ Has G' H' ((lo, .lst zs) :: l) ∧ Ats G' zs (J.map dSgn) ∧ J.Nodup ∧ (∀ s, s ∈ J ↔ s ∈ clM ms n [] ∨ ∃ t ∈ b.take i, s ∈ clM ms n [t]))
      ⟨none, none, G2, l1, zs0, clM ms n [], rfl, Evl.Ex.refl _, S3, hz0, cl_nodup _ _ _, fun s => ⟨.inl, fun h => by
        rcases h with h | ⟨t, ht, _⟩
        · exact h
        · exact absurd ht List.not_mem_nil⟩⟩ (fun i σ H' _ h => ?_) ?_ ?_⟩
    · obtain ⟨_, _, G', lo, zs, J, _, e', S', _⟩ := h
      exact Evl.st_of (S'.ex _ _ (e' _ _ hp2))
    · rintro i x σ H4 hi ⟨v3, v4, G4, lo, zs, J, rfl, e4, S4, hz, nd, mem⟩
      obtain ⟨c, hc', ac⟩ := ats_get hy2 hi
      have hcb := List.mem_of_getElem? hc'
      have hcn := bb c hcb
      have lJ := joint_len (n := n) nd fun s hs => by
        rcases (mem s).mp hs with h | ⟨t, _, h⟩ <;> exact cl_lt s h
      have lz : zs.length ≤ 12 := by rw [hz.1, List.length_map]; omega
      refine ⟨_, rfl, _, rfl, _, rfl, sz (by show 1 ≤ 100000; decide), fun u2 nu2 => ?_⟩
      have S5 := S4.new (o := .tup [x]) nu2
      have a5 : At (upd G4 u2 (.tup [x])) (.ref u2) (dBar [c]) := At.mkT upd_same (.cons ((ac.ex e4).ex S5.exS) .nil)
      have pc : partP n [c] := ⟨by show 1 ≤ 100; decide, fun s hs => by rw [List.mem_singleton.mp hs]; exact hcn, List.pairwise_singleton _ _⟩
      have cc : canM ms [c] = true := canM_sub hc fun s hs => by rw [List.mem_singleton.mp hs]; exact hcb
      refine use_cl S5.sink (((tab.ex e2).ex e4).ex S5.exS) htab hn hn6 hS a5 pc cc fun G6 H6 y e6' S6 ay => ?_
      have e6 := S5.exS.trans e6'
      obtain ⟨t6, ws, rfl, ht6, hw⟩ := ay.bar
      have lw : ws.length ≤ 12 := by
        have := cl_len ms n [c]
        rw [hw.1, List.length_map]
        omega
      refine ⟨t6, rfl, ⟨_, Evl.st_of (S6.ex _ _ ht6)⟩, fun D7 nD7 => ?_⟩
      have hz6 := hz.ex e6
      refine lc_tup (K := K) (xs := ws) (fun k H' => ∃ us : List V, Has G6 H' ((D7, .lst us) :: (lo, .lst zs) :: l) ∧ Ats G6 us ((((clM ms n [c]).take k).filter fun s => !decide (s ∈ J)).map dSgn)) ⟨[], S6.new nD7, .nil⟩ (fun k H' _ h => by
        obtain ⟨us, S', _⟩ := h
        exact Evl.st_of (S'.ex _ _ ht6)) ?_ ?_
      · rintro k m H7 hk ⟨us, S7, hu⟩
        obtain ⟨s, hs, hSg⟩ := ats_get hw hk
        have lu : us.length ≤ 12 := by
          have h1 := filt_len (fun s => !decide (s ∈ J)) (clM ms n [c]) k
          have h2 := cl_len ms n [c]
          rw [hu.1, List.length_map]
          omega
        refine ⟨rfl, _, rfl, _, rfl, dSgn s, J.map dSgn, (hSg.ex S7.ex).dp, (At.mkL (S7.get 1 rfl) (hz6.ex S7.ex)).dp, shaped_sgn s, shaped_listB J, _, rfl, ?_⟩
        rw [any_bar]
        cases hq : (!decide (s ∈ J)) with
        | true =>
          refine ⟨_, rfl, _, S7.get 0 rfl, szl (by omega), us ++ [m], S7.set 0 rfl, ?_⟩
          rw [filt_yes (f := fun s => !decide (s ∈ J)) hs hq, List.map_append]
          exact hu.snoc hSg
        | false =>
          refine ⟨us, S7, ?_⟩
          rw [filt_no (f := fun s => !decide (s ∈ J)) hs hq]
          exact hu
      · rintro H7 ⟨us, S7, hu⟩
        rw [List.take_of_length_le (by rw [hw.1, List.length_map]; exact Nat.le_refl _)] at hu
        have lu : us.length ≤ 12 := by
          have h1 := List.length_filter_le (fun s => !decide (s ∈ J)) (clM ms n [c])
          have h2 := cl_len ms n [c]
          rw [hu.1, List.length_map]
          omega
        refine ⟨lo, D7, zs, us, rfl, rfl, S7.get 1 rfl, S7.get 0 rfl, sz (by show zs.length + us.length ≤ 100000; omega), fun r nr => ?_⟩
        have S8 := S7.new (o := .lst (zs ++ us)) nr
        refine ⟨_, _, G6, r, zs ++ us, J ++ (clM ms n [c]).filter (fun s => !decide (s ∈ J)), rfl, e4.trans e6, S8.drop2.drop2, ?_, ?_, fun s => ?_⟩
        · rw [List.map_append]
          exact hz6.append hu
        · refine List.nodup_append.mpr ⟨nd, (cl_nodup ms n [c]).filter _, fun s hs t ht e => ?_⟩
          subst e
          have := (List.mem_filter.mp ht).2
          rw [Bool.not_eq_true', decide_eq_false_iff_not] at this
          exact this hs
        · rw [take_snoc hc']
          simp only [List.mem_append, List.mem_filter, List.mem_singleton, Bool.not_eq_true', decide_eq_false_iff_not]
          constructor
          · rintro (h | ⟨h1, h2⟩)
            · rcases (mem s).mp h with h | ⟨t, h1, h2⟩
              · exact .inl h
              · exact .inr ⟨t, .inl h1, h2⟩
            · exact .inr ⟨c, .inr rfl, h1⟩
          · rintro (h | ⟨t, h1 | h1, h2⟩)
            · exact .inl ((mem s).mpr (.inl h))
            · exact .inl ((mem s).mpr (.inr ⟨t, h1, h2⟩))
            · subst h1
              by_cases hj : s ∈ J
              · exact .inl hj
              · exact .inr ⟨h2, hj⟩
    · rintro σ H4 ⟨v3, v4, G4, lo, zs, J, rfl, e4, S4, hz, nd, mem⟩
      rw [ly, List.take_length] at mem
      have lz : zs.length = J.length := by rw [hz.1, List.length_map]
      have fin := sort_same nd (cl_pw ms n b) fun s => by rw [mem, joint_iff hS bb hc]
      have hbs : (List.zip zs (J.map dSgn)).map (·.1) = zs := by rw [List.map_fst_zip (Nat.le_of_eq hz.1)]
      have hbd : (List.zip zs (J.map dSgn)).map (·.2) = J.map dSgn := by rw [List.map_snd_zip (Nat.le_of_eq hz.1.symm)]
      have hat : ∀ c ∈ List.zip zs (J.map dSgn), At G4 c.1 c.2 := fun c hc => by
        obtain ⟨i, hi⟩ := List.mem_iff_getElem?.mp hc
        rw [List.getElem?_zip_eq_some] at hi
        exact hz.2 i _ _ hi.1 hi.2
      have hdd : ∀ c ∈ List.zip zs (J.map dSgn), ∃ s : Sgn, c.2 = dSgn s := fun c hc => by
        have : c.2 ∈ J.map dSgn := by rw [← hbd]; exact List.mem_map_of_mem hc
        obtain ⟨s, _, e⟩ := List.mem_map.mp this
        exact ⟨s, e.symm⟩
      have hst := ats_sort hat
      rw [hbd, fin] at hst
      refine ⟨_, rfl, lo, List.zip zs (J.map dSgn), rfl, Evl.sq_of (by rw [hbs]; exact S4.get 0 rfl), fun c hc => ((hat c hc).ex S4.ex).dp, .inl (by rw [hbd]; exact sgn_sort), fun c hc => ?_, fun m nm => ?_⟩
      · obtain ⟨s, e⟩ := hdd c hc
        rw [e]
        exact Nat.le_trans (dep_sgn _) (by decide)
      · generalize ((List.zip zs (J.map dSgn)).mergeSort (PySem.W.dataLe false (·.2))).map (·.1) = Zs at hst
        have S5 := S4.new (o := .lst Zs) nm
        generalize upd H4 m (.lst Zs) = H5 at S5
        refine ⟨m, Zs, rfl, .inl ⟨Evl.sq_of (S5.get 0 rfl), fun r1 nr1 => ?_⟩⟩
        have S6 := S5.tail.tail.new (o := .tup Zs) nr1
        exact q _ _ _ ((e2.trans e4).trans S6.exS) S6.sink (At.mkT upd_same (hst.ex S6.exS))
end
end TW
set_option Elab.async false
set_option linter.all false
set_option maxRecDepth 100000
set_option maxHeartbeats 4000000
namespace TW
open PySem PySem.Spec PyProof.Rows L2
theorem upB_le : ∀ {n : Nat} {b : Bar}, (∀ s ∈ b, s.1 < n) → UpB b → b.length ≤ n := fun {n b} h u => by
  have h1 : (b.map (·.1)).Pairwise (· < ·) := List.pairwise_map.mpr u
  have h2 : ∀ x ∈ b.map (·.1), x ∈ List.range n := fun x hx => by
    obtain ⟨s, hs, rfl⟩ := List.mem_map.mp hx
    exact List.mem_range.mpr (h s hs)
  have h3 := nodup_len (h1.imp fun h => Nat.ne_of_lt h) h2
  rw [List.length_map, List.length_range] at h3
  exact h3
theorem opt_none {H : Hp} {x : V} {o : Option Bar} (h : At H x (dOpt o)) : decide (x = V.non) = o.isNone := by
  cases o with
  | none =>
    cases h
    rfl
  | some b =>
    have h' : At H x (dBar b) := h
    obtain ⟨t, ys, rfl, _, _⟩ := h'.bar
    rfl
theorem zip_ats {H : Hp} {zs : List V} {b : Bar} (hz : Ats H zs (b.map dSgn)) : (List.zip zs (b.map dSgn)).map (·.1) = zs ∧ (List.zip zs (b.map dSgn)).map (·.2) = b.map dSgn ∧ (∀ c ∈ List.zip zs (b.map dSgn), At H c.1 c.2) ∧ ∀ c ∈ List.zip zs (b.map dSgn), c.2.depth ≤ 20 := by
  have hbd : (List.zip zs (b.map dSgn)).map (·.2) = b.map dSgn := by rw [List.map_snd_zip (Nat.le_of_eq hz.1.symm)]
  refine ⟨by rw [List.map_fst_zip (Nat.le_of_eq hz.1)], hbd, fun c hc => ?_, fun c hc => ?_⟩
  · obtain ⟨i, hi⟩ := List.mem_iff_getElem?.mp hc
    rw [List.getElem?_zip_eq_some] at hi
    exact hz.2 i _ _ hi.1 hi.2
  · have : c.2 ∈ b.map dSgn := by rw [← hbd]; exact List.mem_map_of_mem hc
    obtain ⟨s, _, e⟩ := List.mem_map.mp this
    rw [← e]
    exact Nat.le_trans (dep_sgn _) (by decide)
section
variable {P : Program} {w : World} {K : PySem.W.Frag} {mg : Str → Option Value} {base : Heap} {C N NC : Addr}
/-! _law_more -/
abbrev NM : List Str := ["book", "told", "full", "sign", "turned", "wider", "above", "held"]
theorem sc_law_more : FnScope NM ["book", "told", "full", "sign"] (defScope s__law_more) := ⟨rfl, rfl, rfl, by decide +kernel, rfl, by decide +kernel, by decide +kernel⟩
def spMore (C : Addr) : Sp := fun vs H Q _ => ∃ (a : Addr) (n : Nat) (L : Lots) (ms : List Int) (v f u : V) (b : Bar) (s : Sgn), vs = [.ref a, v, f, u] ∧ TabAt C H a n L ∧ TabOf n ms L ∧ 0 < n ∧ n ≤ 6 ∧ Shut n ms ∧ shutB n ms = true ∧ At H v (dBar b) ∧ partP n b ∧ canM ms b = true ∧ At H f (dBar (clM ms n b)) ∧ At H u (dSgn s) ∧ s.1 < n ∧
  ∀ H', Ex H H' → Q (.bl true) H'
/-- the contrary of sign -/
def tTurn3 : TE := fun σ H Q => ∃ (G : Hp) (l : List (Addr × HO)) (v : V) (k : Sgn), σ[3]? = some (some v) ∧ Has G H l ∧ At G v (dSgn k) ∧ ∀ (G' H' : Hp) (y : V), Ex G G' → Has G' H' l → At G' y (dSgn (neg k)) → Q y H'
/-- told + (sign,) -/
def tMore1 : TE := fun σ H Q => ∃ (G : Hp) (l : List (Addr × HO)) (v u : V) (b : Bar) (s : Sgn), σ[1]? = some (some v) ∧ σ[3]? = some (some u) ∧ Has G H l ∧ At G v (dBar b) ∧ b.length ≤ 100 ∧ At G u (dSgn s) ∧ ∀ (G' H' : Hp) (t : Addr) (zs : List V), Ex G G' → Has G' H' l → G' t = some (.tup zs) → Ats G' zs ((b ++ [s]).map dSgn) → Q (.ref t) H'
theorem ok_more {fc fk : Addr} {fcd fkd : FuncData} (D : Dfn K mg "_law_more" s__law_more ["book", "told", "full", "sign"]) (z : Z mg) (O_can_be : Ok P w K mg base 8 "can_be" ["table", "part"] (spCanBe C))
    (RC : FnOk P w K mg base (L2.CX P w) 8 fc fcd ["table", "part"] (spClosure C N)) (gC : mg "closure" = some (.ref fc)) (kC : PySem.W.keepIn K (.ref fc) = true) (bC : Binds K fcd ["table", "part"] [])
    (RK : FnOk P w K mg base (L2.CX P w) 11 fk fkd ["table", "part"] (spClash C NC)) (gK : mg "clash" = some (.ref fk)) (kK : PySem.W.keepIn K (.ref fk) = true) (bK : Binds K fkd ["table", "part"] [])
    (O_same : ∀ n, Ok P w K mg base (n + 1) "_law_same" ["given", "due"] (spSame n)) : Ok P w K mg base 12 "_law_more" ["book", "told", "full", "sign"] (spMore C) := D.ok fun f fd F => by
  refine F.ok sc_law_more (fun vs H Q E h => ?_) (fun cdv A outer sh H vs Q E hr h => ?_)
  · obtain ⟨a, n, L, ms, v, f', u, b, s, rfl, _⟩ := h
    rfl
  · obtain ⟨a, n, L, ms, v, f', u, b, s, rfl, tab, htab, hn, hn6, hS, hsh, hv, pb, hc, hf, hu, hs, q⟩ := h
    obtain ⟨lb, bb, ub⟩ := id pb
    have hu65 : (A.deeper (envOfC "_law_more" (defScope s__law_more) sh.heap.objs.size f cdv)).units + 65 < cLine := by
      have := hr.un
      omega
    refine ⟨_, (pss_cons (ps_if (pt_cmpR (op_inK (K := K)) (pe_ix ix_tup (pv 3) pe_int (fun _ _ => rfl)) (pe_lc (own := [("held", 7)]) (g := gName 7) rfl sc_law_more.nd (pi_tup (pv 1)) (blkOk_by (N := NM) (own := [("held", 7)]) (sc := defScope s__law_more) (by decide +kernel)) (fun _ _ _ _ _ => pg_name (i := 7) sc_law_more.nd rfl (Or.inl rfl)) (fun _ _ _ _ _ => pts_nil) (fun _ _ _ _ _ => (pe_ix (ix_any (K := K)) (pv 7) pe_int (fun _ _ => rfl)))) (by rfl)) (pss_one (ps_ret pe_bl)) pss_nil)
      (pss_cons (ps_set (i := 4) sc_law_more.nd rfl (Or.inl rfl) (PE.imp (t' := tTurn3) (pe_tup (pa_cons (pe_ix ix_tup (pv 3) pe_int (fun _ _ => rfl)) (pa_cons (pe_ifExp (pt_cmpR op_eq (pe_ix ix_tup (pv 3) pe_int (fun _ _ => rfl)) pe_str (nomark _)) pe_str pe_str) pa_nil))) (fun σ H Q h => by
        obtain ⟨G, l, v, k, h4, S, hv, q⟩ := h
        obtain ⟨c, rfl, hc⟩ := hv.sgn
        refine ⟨_, h4, c, _, 0, .int k.1, rfl, rfl, Evl.st_of (S.ex _ _ hc), rfl, ?_⟩
        refine ⟨_, h4, c, _, 1, .str (sw k.2), rfl, rfl, Evl.st_of (S.ex _ _ hc), rfl, rfl, _, rfl, ?_⟩
        rw [sw_out]
        have fin : ∀ y : V, y = V.str (sw (!k.2)) → ∀ p, H p = none → Q (.ref p) (upd H p (.tup [.int k.1, y])) := fun y hy p np => by
          have S1 := S.new (o := .tup [.int k.1, y]) np
          exact q _ _ _ S1.exS S1.sink (by rw [hy]; exact at_sgn (s := neg k) upd_same)
        cases e : (!k.2) with
        | true => exact ⟨sz (by show 2 ≤ 100000; decide), fun p np => fin _ (by rw [e]; rfl) p np⟩
        | false => exact ⟨sz (by show 2 ≤ 100000; decide), fun p np => fin _ (by rw [e]; rfl) p np⟩)))
      (pss_cons (ps_set (i := 5) sc_law_more.nd rfl (Or.inl rfl) (pe_callTy call_tuple_of (by rfl) z.tuple (by decide +kernel) (pa_cons (pe_callB (cr_sortT (K := K) hr.units) (by rfl) z.sorted (by decide +kernel) (pa_cons (PE.imp (t' := tMore1) (pe_op (op_catAK (K := K)) (pv 1) (pe_tup (pa_cons (pv 3) pa_nil))) (fun σ H Q h => by
        obtain ⟨G, l, v, u, b, s, h1, h3, S, hv, lb, hu, q⟩ := h
        obtain ⟨p, ys, rfl, hp, hy⟩ := hv.bar
        have ly : ys.length = b.length := by rw [hy.1, List.length_map]
        refine ⟨_, h1, _, h3, sz (by show 1 ≤ 100000; decide), fun t nt => ?_⟩
        have S1 := S.new (o := .tup [u]) nt
        refine ⟨p, t, ys, [u], rfl, rfl, Evl.st_of (S1.ex _ _ hp), Evl.st_of (S1.get 0 rfl), sz (by show ys.length + 1 ≤ 100000; omega), fun h0 => ?_, (fun _ h0 => by cases h0), fun _ _ r nr => ?_⟩
        · subst h0
          have b0 : b = [] := List.length_eq_zero_iff.mp (by rw [← ly]; rfl)
          subst b0
          exact q _ _ t [u] S1.exS S1.sink upd_same (.cons (hu.ex S1.exS) .nil)
        · have S2 := S1.sink.new (o := .tup (ys ++ [u])) nr
          refine q _ _ r (ys ++ [u]) (S1.exS.trans S2.exS) S2.sink upd_same ?_
          rw [List.map_append]
          exact ((hy.ex S1.exS).ex S2.exS).snoc ((hu.ex S1.exS).ex S2.exS))) pa_nil)) pa_nil)))
      (pss_cons (ps_if (pt_cmpR op_ne (pe_cmpR op_notBl (pe_o O_can_be (hr.mono (by decide)) (pa_cons (pv 0) (pa_cons (pv 5) pa_nil))) pe_bl (nomark _)) (pe_cmpR (op_inDT (K := K) hu65) (pv 4) (pv 2) (by rfl)) (nomark _)) (pss_one (ps_ret pe_bl)) pss_nil)
      (pss_cons (ps_if (pt_cmpR (op_inDT (K := K) hu65) (pv 4) (pv 2) (by rfl)) (pss_one (ps_ret (pe_and (pe_cmpR op_notN (pe_call RK hr (by rfl) gK kK bK .nil passL (pa_cons (pv 0) (pa_cons (pv 5) pa_nil))) pe_non (nomark _)) (pe_one (pe_o (O_same 2) (hr.mono (by decide)) (pa_cons (pe_call RC (hr.mono (by decide)) (by rfl) gC kC bC .nil passL (pa_cons (pv 0) (pa_cons (pv 1) pa_nil))) (pa_cons (pv 2) pa_nil))))))) pss_nil)
      (pss_cons (ps_set (i := 6) sc_law_more.nd rfl (Or.inr rfl) (pe_call RC (hr.mono (by decide)) (by rfl) gC kC bC .nil passL (pa_cons (pv 0) (pa_cons (pv 5) pa_nil))))
      (pss_cons (ps_if (PW.pt (pw_or (pt_not (pt_val (pe_callB (cr_allK (K := K) rfl) (by rfl) z.all (by decide +kernel) (pa_cons (pe_lc (own := [("held", 7)]) (g := gName 7) rfl sc_law_more.nd (pi_tup (pv 2)) (blkOk_by (N := NM) (own := [("held", 7)]) (sc := defScope s__law_more) (by decide +kernel)) (fun _ _ _ _ _ => pg_name (i := 7) sc_law_more.nd rfl (Or.inl rfl)) (fun _ _ _ _ _ => pts_nil) (fun _ _ _ _ _ => (pe_cmpR (op_inDT (K := K) hu65) (pv 7) (pv 6) (by rfl)))) pa_nil)))) (pw_or1 (pt_cmpR (op_notInDT (K := K) hu65) (pv 3) (pv 6) (by rfl))))) (pss_one (ps_ret pe_bl)) pss_nil)
      (pss_one (ps_ret (pe_or (pe_cmpR (op_notInDT (K := K) hu65) (pv 3) (pv 2) (by rfl)) (pe_one (pe_o (O_same 2) (hr.mono (by decide)) (pa_cons (pv 6) (pa_cons (pv 2) pa_nil)))))))))))))), ?_⟩
    have S : Has H H [] := Has.nil
    obtain ⟨p, ys, rfl, hp, hy⟩ := hv.bar
    have ly : ys.length = b.length := by rw [hy.1, List.length_map]
    obtain ⟨c, rfl, hcS⟩ := hu.sgn
    -- its thing is told
    refine ⟨_, rfl, c, _, 0, .int s.1, rfl, rfl, Evl.st_of hcS, rfl, ?_⟩
    refine ⟨_, rfl, p, rfl, ⟨_, Evl.st_of hp⟩, fun D1 nD1 => ?_⟩
    refine lc_tup (K := K) (xs := ys) (fun i H' => Has H H' [(D1, .lst (((b.take i).map fun t => (t.1 : Int)).map V.int))]) (S.new nD1) (fun i H' _ S' => Evl.st_of (S'.ex _ _ hp)) ?_ ?_
    · rintro i x H1 hi S1
      obtain ⟨t, ht, hT⟩ := ats_get hy hi
      have hi2 := (List.getElem?_eq_some_iff.mp ht).1
      obtain ⟨ct, rfl, hct⟩ := hT.sgn
      refine ⟨rfl, _, rfl, .inr ⟨ct, _, 0, .int t.1, rfl, rfl, Evl.st_of (S1.ex _ _ hct), rfl, ?_⟩⟩
      refine ⟨_, S1.get 0 rfl, szl (by rw [List.length_map, List.length_map, List.length_take]; omega), ?_⟩
      rw [take_snoc ht, List.map_append, List.map_append]
      exact S1.set 0 rfl
    rintro H1 S1'
    rw [ly, List.take_length] at S1'
    refine ⟨D1, _, rfl, .inl (Evl.sq_of (S1'.get 0 rfl)), rfl, flat_ints _, _, rfl, ?_⟩
    rw [inV_int]
    have S1 : Has H H1 [] := S1'.tail
    cases hq : decide ((s.1 : Int) ∈ b.map fun t => (t.1 : Int)) with
    | true => exact q H1 S1.ex
    | false =>
      have nth : ∀ t ∈ b, t.1 ≠ s.1 := fun t ht e => of_decide_eq_false hq (List.mem_map.mpr ⟨t, ht, by rw [e]⟩)
      obtain ⟨W, eW, uW, pW⟩ := sort_part ub nth
      have lW : W.length ≤ 101 := by rw [pW.length_eq, List.length_append]; show b.length + 1 ≤ 101; omega
      have are := tabOf_are htab
      have hL := lots_ok htab hn6
      have lL := lots_le htab hS.1 hn hn6
      have bW : ∀ t ∈ W, t.1 < n := fun t ht => by
        rcases List.mem_append.mp (pW.mem_iff.mp ht) with ht | ht
        · exact bb t ht
        · rw [List.mem_singleton.mp ht]
          exact hs
      have hcW := wider_can (ms := ms) (b := b) hs pW
      have lb2 : b.length ≤ n := upB_le bb ub
      have pbW : partP n W := ⟨by rw [pW.length_eq, List.length_append]; show b.length + 1 ≤ 100; omega, bW, uW⟩
      obtain ⟨pf, yf, rfl, hpf, hyf⟩ := hf.bar
      refine ⟨H, [], .ref c, s, rfl, S1, hu, fun G2 H2 y e2 S2 ay => ?_⟩
      refine ⟨G2, [], .ref p, .ref c, b, s, rfl, rfl, S2, hv.ex e2, by omega, hu.ex e2, fun G3 H3 t zs e3 S3 ht hz => ?_⟩
      obtain ⟨z1, z2, z3, z4⟩ := zip_ats hz
      have hst := ats_sort z3
      rw [z2, eW] at hst
      refine ⟨t, List.zip zs ((b ++ [s]).map dSgn), rfl, Evl.st_of (by rw [z1]; exact S3.ex _ _ ht), fun c hc => ((z3 c hc).ex S3.ex).dp, by rw [z2]; exact sgn_sort.1, by rw [z2]; exact sgn_sort.2, z4, fun m nm => ?_⟩
      generalize ((List.zip zs ((b ++ [s]).map dSgn)).mergeSort (PySem.W.dataLe false (·.2))).map (·.1) = Zs at hst
      have S4 := S3.new (o := .lst Zs) nm
      generalize upd H3 m (.lst Zs) = H4 at S4
      refine ⟨m, Zs, rfl, .inl ⟨Evl.sq_of (S4.get 0 rfl), fun r1 nr1 => ?_⟩⟩
      have S5' := S4.tail.new (o := .tup Zs) nr1
      have S5 := S5'.sink
      have e5 := e3.trans S5'.exS
      have aw : At (upd G3 r1 (.tup Zs)) (.ref r1) (dBar W) := At.mkT upd_same (hst.ex S5'.exS)
      generalize upd G3 r1 (.tup Zs) = G5 at S5 e5 aw
      generalize upd H4 r1 (.tup Zs) = H5 at S5
      have e25 := e2.trans e5
      have ay5 := ay.ex e5
      have hf5 := hf.ex e25
      have tab5 := tab.ex e25
      -- can_be(book, wider) is not True
      refine ⟨_, rfl, _, rfl, a, n, L, .ref r1, W, rfl, tab5.ex S5.ex, hL, by omega, aw.ex S5.ex, by omega, ins_of bW, upB_asc uW, fun H6 e6 => ?_⟩
      have S6 := S5.go e6
      rw [can_eq are bW, hcW]
      refine ⟨_, _, rfl, rfl, _, rfl, _, rfl, dSgn (neg s), (clM ms n b).map dSgn, (ay5.ex S6.ex).dp, (hf5.ex S6.ex).dp, shaped_sgn _, shaped_bar _, ?_⟩
      rw [any_bar]
      refine ⟨rfl, _, rfl, ?_⟩
      rw [show ∀ X : Bool, (!decide (V.bl (!decide ((!X) = true)) = V.bl X)) = false from fun X => by cases X <;> decide +kernel]
      refine ⟨_, rfl, _, rfl, dSgn (neg s), (clM ms n b).map dSgn, (ay5.ex S6.ex).dp, (hf5.ex S6.ex).dp, shaped_sgn _, shaped_bar _, _, rfl, ?_⟩
      rw [any_bar]
      cases hX : decide (neg s ∈ clM ms n b) with
      | true =>
        rw [hX] at hcW
        refine ⟨_, rfl, _, rfl, G5, [], a, n, L, ms, .ref r1, W, rfl, S6, tab5, htab, hS.1, hn, hn6, aw, pbW, (fun h0 => by rw [hsh] at h0; cases h0), fun _ _ G7 H7 x7 e7 S7 ax7 => ?_⟩
        refine ⟨rfl, ?_⟩
        rw [opt_none ax7]
        have hd : (dueM ms W).isNone = false := by
          cases hd : dueM ms W with
          | none =>
            have := can_of_due hS bW uW hd
            rw [hcW] at this
            cases this
          | some g => rfl
        rw [hd]
        have e07 := e25.trans e7
        refine ⟨_, rfl, _, rfl, _, rfl, use_cl S7 (tab.ex e07) htab hn hn6 hS (hv.ex e07) pb hc fun G8 H8 x8 e8 S8 ax8 => ?_⟩
        exact ⟨_, rfl, _, _, rfl, rep_bar (by have := cl_len ms n b; omega) (ax8.ex S8.ex) (((hf.ex e07).ex e8).ex S8.ex), fun H9 e9 => q H9 (((e07.trans e8).trans S8.ex).trans e9)⟩
      | false =>
        rw [hX] at hcW
        obtain ⟨w1, w2⟩ := wider_sub (ms := ms) (b := b) hs pW
        refine ⟨_, rfl, _, rfl, use_cl S6 tab5 htab hn hn6 hS aw pbW hcW fun G7 H7 x7 e7 S7 ax7 => ?_⟩
        have e07 := e25.trans e7
        have hf7 := hf.ex e07
        have hpf7 := e07 _ _ hpf
        have hyf7 := hyf.ex e07
        have lyf : yf.length = (clM ms n b).length := by rw [hyf.1, List.length_map]
        have lcl := cl_len ms n b
        refine ⟨_, rfl, pf, rfl, ⟨_, Evl.st_of (S7.ex _ _ hpf7)⟩, fun D2 nD2 => ?_⟩
        refine lc_tup (K := K) (xs := yf) (fun i H' => Has G7 H' [(D2, .lst ((List.replicate i true).map V.bl))]) (S7.new nD2) (fun i H' _ S' => Evl.st_of (S'.ex _ _ hpf7)) ?_ ?_
        · rintro i x H8 hi S8
          obtain ⟨t, ht, hT⟩ := ats_get hyf7 hi
          have hi2 := (List.getElem?_eq_some_iff.mp ht).1
          refine ⟨rfl, _, rfl, _, rfl, dSgn t, (clM ms n W).map dSgn, (hT.ex S8.ex).dp, (ax7.ex S8.ex).dp, shaped_sgn _, shaped_bar _, ?_⟩
          rw [any_bar, decide_eq_true (w1 t (List.mem_of_getElem? ht))]
          refine ⟨_, S8.get 0 rfl, szl (by rw [List.length_map, List.length_replicate]; omega), ?_⟩
          rw [List.replicate_succ', List.map_append]
          exact S8.set 0 rfl
        rintro H8 S8'
        refine ⟨D2, _, rfl, Evl.sq_of (S8'.get 0 rfl), _, rfl, ?_⟩
        rw [show (List.replicate yf.length true).all id = true by simp]
        have S8 : Has G7 H8 [] := S8'.tail
        refine ⟨_, rfl, _, rfl, dSgn s, (clM ms n W).map dSgn, ((hu.ex e07).ex S8.ex).dp, (ax7.ex S8.ex).dp, shaped_sgn _, shaped_bar _, _, rfl, ?_⟩
        rw [any_bar, decide_eq_true w2]
        refine ⟨_, rfl, _, rfl, dSgn s, (clM ms n b).map dSgn, ((hu.ex e07).ex S8.ex).dp, (hf7.ex S8.ex).dp, shaped_sgn _, shaped_bar _, _, rfl, ?_⟩
        rw [any_bar]
        by_cases hsb : s ∈ clM ms n b
        · rw [decide_eq_true hsb]
          have ew := wider_eq bb pW hsb
          rw [ew] at ax7
          exact ⟨_, rfl, _, rfl, _, _, rfl, rep_bar (by omega) (ax7.ex S8.ex) (hf7.ex S8.ex), fun H9 e9 => q H9 ((e07.trans S8.ex).trans e9)⟩
        · rw [decide_eq_false hsb]
          exact q H8 (e07.trans S8.ex)
end
end TW
set_option Elab.async false
set_option linter.all false
set_option maxRecDepth 100000
set_option maxHeartbeats 8000000
namespace TW
open PySem PySem.Spec PyProof.Rows L2
theorem cut_ints (xs : List Int) (lo hi : Option Int) : ∃ ms : List Int, cutV (xs.map V.int) lo hi = ms.map V.int ∧ ms.length ≤ xs.length := by
  have e : cutV (xs.map V.int) lo hi = ((xs.drop (HT.sIx (xs.map V.int).length 0 lo)).take (HT.sIx (xs.map V.int).length (xs.map V.int).length hi - HT.sIx (xs.map V.int).length 0 lo)).map V.int := by
    unfold cutV
    rw [List.map_take, List.map_drop]
  refine ⟨_, e, ?_⟩
  rw [List.length_take, List.length_drop]
  omega
def dSO : Option Sgn → PyData
  | none => .none
  | some s => dSgn s
theorem eqv_so (s : Sgn) (d : Option Sgn) : PyData.eqv (dSgn s) (dSO d) = decide (some s = d) := by
  cases d with
  | none => rfl
  | some t =>
    show PyData.eqv (dSgn s) (dSgn t) = _
    rw [eqv_sgn, Bool.eq_iff_iff, decide_eq_true_eq, decide_eq_true_eq, Option.some.injEq]
theorem shaped_so (d : Option Sgn) : SeqAt.shaped (dSO d) = true := by
  cases d with
  | none => decide +kernel
  | some t => exact shaped_sgn t
/-- full[_law_dip(well, len(full))] if full != () else None -/
def tLost : TE := fun σ H Q => ∃ (G : Hp) (wp : Addr) (o : HO) (k : Nat) (v : V) (c : Bar), σ[3]? = some (some (.ref wp)) ∧ σ[9]? = some (some v) ∧ Has G H [(wp, o)] ∧ WellO k o ∧ k < 10 ^ 8 ∧ At G v (dBar c) ∧ c.length ≤ 100 ∧
  ∀ (H' : Hp) (o' : HO) (x : V) (d : Option Sgn), Has G H' [(wp, o')] → WellO (k + 1) o' → At G x (dSO d) → Q x H'
section
variable {P : Program} {w : World} {K : PySem.W.Frag} {mg : Str → Option Value} {base : Heap} {C N NC : Addr}
abbrev NL : List Str := ["script", "great", "cell", "well", "wide", "masks", "book", "turn", "told", "full", "lost", "rest", "sign"]
theorem sc_law : FnScope NL ["script"] (defScope s_law) := ⟨rfl, rfl, rfl, by decide +kernel, rfl, by decide +kernel, by decide +kernel⟩
def spLaw (K : PySem.W.Frag) : Sp := fun vs H Q _ => ∃ (a : Addr) (ns : List Int), vs = [.ref a] ∧ SqL K H a (ns.map V.int) ∧ ns.length ≤ 63 ∧ ∀ H', Q (.bl true) H'
theorem ok_law {f fc fr : Addr} {fd fcd frd : FuncData} (F : Fun K "law" "law" s_law f fd) (z : Z mg) (O_draws : Ok P w K mg base 1 "_law_draws_of" ["cell"] spDrawsW) (O_dip : Ok P w K mg base 1 "_law_dip" ["well", "upto"] spDipW)
    (O_width : Ok P w K mg base 2 "_law_width" ["well"] spWidth) (O_masks : Ok P w K mg base 5 "_law_some_masks" ["well", "wide"] spSomeMasks) (O_reached : Ok P w K mg base 1 "_law_reached" ["masks", "wide"] spReached) (O_make : Ok P w K mg base 6 "_law_make_table" ["wide", "masks"] (spMakeTable K C))
    (O_part : Ok P w K mg base 2 "_law_some_part" ["well", "wide", "masks"] spSomePart) (O_all : Ok P w K mg base 1 "_law_all_signs" ["wide"] spAllS) (O_can_be : Ok P w K mg base 8 "can_be" ["table", "part"] (spCanBe C)) (O_pc : Ok P w K mg base 9 "_law_pairs_can" ["book", "told"] (spPairsCan C)) (O_joint : Ok P w K mg base 9 "_law_joint" ["book", "told"] (spJoint C))
    (O_more : Ok P w K mg base 12 "_law_more" ["book", "told", "full", "sign"] (spMore C)) (RC : FnOk P w K mg base (L2.CX P w) 8 fc fcd ["table", "part"] (spClosure C N)) (gC : mg "closure" = some (.ref fc)) (kC : PySem.W.keepIn K (.ref fc) = true) (bC : Binds K fcd ["table", "part"] [])
    (R : FnOk P w K mg base (L2.CX P w) 11 fr frd ["table", "part", "literal"] (spWhy C N NC)) (gR : mg "why" = some (.ref fr)) (kR : PySem.W.keepIn K (.ref fr) = true) (bR : Binds K frd ["table", "part", "literal"] [])
    (O_same : ∀ n, Ok P w K mg base (n + 1) "_law_same" ["given", "due"] (spSame n)) : FnOk P w K mg base CX0 13 f fd ["script"] (spLaw K) := by
  refine F.ok sc_law (fun vs H Q E h => ?_) (fun cdv A outer sh H vs Q E hr h => ?_)
  · obtain ⟨a, ns, rfl, _⟩ := h
    rfl
  · obtain ⟨a, ns, rfl, hSc, hlen, q⟩ := h
    have hu65 : (A.deeper (envOfC "law" (defScope s_law) sh.heap.objs.size f cdv)).units + 65 < cLine := by
      have := hr.un
      omega
    refine ⟨_, (pss_cons (ps_set (i := 1) sc_law.nd rfl (Or.inl rfl) pe_int)
      (pss_cons (ps_for PassesOwn.never rfl (pi_list (pe_op op_cat (pe_lst (pa_cons (pv 1) pa_nil)) (pe_slice sl_list (pv 0) po_none (po_some pe_int)))) (pg_name (i := 2) sc_law.nd rfl (Or.inl rfl))
      (pss_cons (ps_set (i := 3) sc_law.nd rfl (Or.inl rfl) (pe_o O_draws (hr.mono (by decide)) (pa_cons (pv 2) pa_nil)))
      (pss_cons (ps_set (i := 4) sc_law.nd rfl (Or.inl rfl) (pe_o O_width (hr.mono (by decide)) (pa_cons (pv 3) pa_nil)))
      (pss_cons (ps_set (i := 5) sc_law.nd rfl (Or.inl rfl) (pe_o O_reached (hr.mono (by decide)) (pa_cons (pe_o O_masks (hr.mono (by decide)) (pa_cons (pv 3) (pa_cons (pv 4) pa_nil))) (pa_cons (pv 4) pa_nil))))
      (pss_cons (ps_set (i := 6) sc_law.nd rfl (Or.inl rfl) (pe_o O_make (hr.mono (by decide)) (pa_cons (pv 4) (pa_cons (pv 5) pa_nil))))
      (pss_one (ps_for PassesOwn.never rfl (pi_range1 (by rfl) z.range (pa_cons pe_int pa_nil)) (pg_name (i := 7) sc_law.nd rfl (Or.inl rfl))
      (pss_cons (ps_set (i := 8) sc_law.nd rfl (Or.inr rfl) (pe_o O_part (hr.mono (by decide)) (pa_cons (pv 3) (pa_cons (pv 4) (pa_cons (pv 5) pa_nil)))))
      (pss_cons (ps_if (pt_cmpR op_ne (pe_cmpR op_isBl (pe_o O_can_be (hr.mono (by decide)) (pa_cons (pv 6) (pa_cons (pv 8) pa_nil))) pe_bl (nomark _)) (pe_o O_pc (hr.mono (by decide)) (pa_cons (pv 6) (pa_cons (pv 8) pa_nil))) (nomark _)) (pss_one (ps_ret pe_bl)) pss_nil)
      (pss_one (ps_if (pt_val (pe_o O_can_be (hr.mono (by decide)) (pa_cons (pv 6) (pa_cons (pv 8) pa_nil))))
        (pss_cons (ps_set (i := 9) sc_law.nd rfl (Or.inl rfl) (pe_call RC (hr.mono (by decide)) (by rfl) gC kC bC .nil passL (pa_cons (pv 6) (pa_cons (pv 8) pa_nil))))
        (pss_cons (ps_if (PW.pt (pw_or (pt_not (pt_val (pe_o (O_same 2) (hr.mono (by decide)) (pa_cons (pv 9) (pa_cons (pe_o O_joint (hr.mono (by decide)) (pa_cons (pv 6) (pa_cons (pv 8) pa_nil))) pa_nil))))) (pw_or1 (pt_not (pt_val (pe_o (O_same 2) (hr.mono (by decide)) (pa_cons (pe_call RC (hr.mono (by decide)) (by rfl) gC kC bC .nil passL (pa_cons (pv 6) (pa_cons (pv 9) pa_nil))) (pa_cons (pv 9) pa_nil)))))))) (pss_one (ps_ret pe_bl)) pss_nil)
        (pss_cons (ps_set (i := 10) sc_law.nd rfl (Or.inr rfl) (PE.imp (t' := tLost) (pe_ifExp (pt_cmpR (op_neD hr.units) (pv 9) (pe_tup pa_nil) (nomark _)) (pe_ix ix_tup (pv 9) (pe_o O_dip (hr.mono (by decide)) (pa_cons (pv 3) (pa_cons (pe_callB call_len_seq (by rfl) z.len PySem.boot_len (pa_cons (pv 9) pa_nil)) pa_nil))) (fun _ _ => rfl)) pe_non) (fun σ H Q h => by
          obtain ⟨G, wp, o, k, v, c, h3, h9, S, wo, hk, hv, lc, q⟩ := h
          obtain ⟨p, ys, rfl, hp, hy⟩ := hv.bar
          have ly : ys.length = c.length := by rw [hy.1, List.length_map]
          refine ⟨_, h9, sz (by show 0 ≤ 100000; decide), fun u nu => ?_⟩
          have S1 := S.new (o := .tup []) nu
          refine ⟨dBar c, dBar [], (hv.ex S1.ex).dp, (At.mkT (S1.get 0 rfl) .nil : At _ (.ref u) (dBar [])).dp, shaped_bar c, shaped_bar [], ?_⟩
          cases c with
          | nil => exact ⟨_, rfl, q _ o .non none S1.tail (wo.up (by omega)) .non⟩
          | cons s r =>
            refine ⟨_, rfl, _, h9, _, h3, _, h9, p, ys, rfl, .inr (Evl.st_of (S1.ex _ _ hp)), wp, ys.length, o, k, rfl, S1.get 1 rfl, wo, by omega, by rw [ly]; exact Nat.succ_pos _, by omega, fun j o' hj w' => ?_⟩
            have S2 : Has G _ [(wp, o')] := S1.tail.set 0 rfl
            obtain ⟨x, hx⟩ : ∃ x, ys[j]? = some x := ⟨_, List.getElem?_eq_getElem hj⟩
            obtain ⟨t, _, hT⟩ := ats_get hy hx
            exact ⟨p, ys, (j : Int), x, rfl, rfl, Evl.st_of (S2.ex _ _ hp), atI_nat (j := j) hx, q _ o' x (some t) S2 w' hT⟩)))
        (pss_cons (ps_set (i := 11) sc_law.nd rfl (Or.inl rfl) (pe_callTy call_tuple_of (by rfl) z.tuple (by decide +kernel) (pa_cons (pe_lc (own := [("sign", 12)]) (g := gName 12) rfl sc_law.nd (pi_tup (pv 9)) (blkOk_by (N := NL) (own := [("sign", 12)]) (sc := defScope s_law) (by decide +kernel)) (fun _ _ _ _ _ => pg_name (i := 12) sc_law.nd rfl (Or.inl rfl)) (fun _ _ _ _ _ => pts_one (PW.pt (pw_or (pt_cmpR (op_neDK (K := K) hr.units) (pv 12) (pv 10) (nomark _)) (pw_or1 (pt_cmpR (op_inDT (K := K) hu65) (pv 12) (pv 8) (by rfl)))))) (fun _ _ _ _ _ => (pv 12))) pa_nil)))
        (pss_cons (ps_if (pt_not (pt_val (pe_o (O_same 2) (hr.mono (by decide)) (pa_cons (pe_call RC (hr.mono (by decide)) (by rfl) gC kC bC .nil passL (pa_cons (pv 6) (pa_cons (pv 11) pa_nil))) (pa_cons (pv 9) pa_nil))))) (pss_one (ps_ret pe_bl)) pss_nil)
        (pss_one (ps_for PassesOwn.never rfl (pi_list (pe_o O_all (hr.mono (by decide)) (pa_cons (pv 4) pa_nil))) (pg_name (i := 12) sc_law.nd rfl (Or.inl rfl))
        (pss_cons (ps_if (pt_not (pt_val (pe_o O_more hr (pa_cons (pv 6) (pa_cons (pv 8) (pa_cons (pv 9) (pa_cons (pv 12) pa_nil))))))) (pss_one (ps_ret pe_bl)) pss_nil)
        (pss_one (ps_if (pt_cmpR op_ne (pe_cmpR op_isN (pe_call R (hr.mono (by decide)) (by rfl) gR kR bR .nil passL (pa_cons (pv 6) (pa_cons (pv 8) (pa_cons (pv 12) pa_nil)))) pe_non (nomark _)) (pe_cmpR (op_notInDT (K := K) hu65) (pv 12) (pv 9) (by rfl)) (nomark _)) (pss_one (ps_ret pe_bl)) pss_nil)))))))))) pss_nil)))))))))))
      (pss_one (ps_ret pe_bl)))), ?_⟩
    generalize (513215780878087975187667152647285072061204770729054472721465172167939571881285787288756803566924 : Int) = great
    refine ⟨_, rfl, sz (by show 1 ≤ 100000; decide), fun p1 np1 => ?_⟩
    obtain ⟨cs, hcs, lcs⟩ := cut_ints ns none (some 1)
    refine ⟨.ref a, rfl, 1, rfl, a, ns.map V.int, rfl, Evl.ex_l (Evl.Ex.new np1) hSc, fun p2 np2 => ?_⟩
    rw [hcs]
    have n12 : p1 ≠ p2 := ne_of_none upd_same np2
    refine ⟨p1, p2, [.int great], cs.map V.int, rfl, rfl, by rw [upd_ne n12, upd_same], upd_same, sz (by rw [List.length_map]; show 1 + cs.length ≤ 100000; omega), fun p3 np3 => ?_⟩
    have h3 : (upd (upd (upd H p1 (.lst [.int great])) p2 (.lst (cs.map V.int))) p3 (.lst ([.int great] ++ cs.map V.int))) p3 = some (.lst ((great :: cs).map V.int)) := upd_same
    generalize hH1 : upd (upd (upd H p1 (.lst [.int great])) p2 (.lst (cs.map V.int))) p3 (.lst ([.int great] ++ cs.map V.int)) = H1 at h3
    refine ⟨p3, rfl, ⟨_, Evl.sq_of h3⟩, for_list (K := K) (a := p3) (xs := (great :: cs).map V.int) (fun i σ H' => Ex H1 H' ∧ ∃ v2 v3 v4 v5 v6 v7 v8 v9 v10 v11 v12 : Option V, σ = [some (.ref a), some (.int great), v2, v3, v4, v5, v6, v7, v8, v9, v10, v11, v12])
      ⟨Evl.Ex.refl H1, none, none, none, none, none, none, none, none, none, none, none, rfl⟩ (fun i σ H' _ p => Evl.ex_l p.1 (Evl.sq_of h3)) ?_ ?_⟩
    · rintro i x σ H2 hi ⟨e2, v2, v3, v4, v5, v6, v7, v8, v9, v10, v11, v12, rfl⟩
      obtain ⟨cell, _, rfl⟩ := map_get hi
      refine ⟨_, rfl, cell, rfl, fun wp o0 nwp w0 => ?_⟩
      have S1 : Has H2 (upd H2 wp o0) [(wp, o0)] := Has.nil.new nwp
      generalize upd H2 wp o0 = H3 at S1
      refine ⟨_, rfl, H2, [], wp, o0, 0, rfl, S1, w0, by decide, fun H4 o1 n S2 w1 hn hn6 => ?_⟩
      refine ⟨_, rfl, _, rfl, H2, [], wp, o1, 1, n, rfl, S2, w1, by decide, hn, hn6, fun G1 H5 o2 tm os e1 S3' w2' hos => ?_⟩
      have w2 : WellO 1001 o2 := w2'
      have S3 := S3'.sink
      have e1' : Ex H2 _ := e1.trans S3'.exS
      have ho2 : (upd G1 tm (.lst (os.map V.int))) tm = some (.lst (os.map V.int)) := upd_same
      generalize upd G1 tm (.lst (os.map V.int)) = G2 at S3 e1' ho2
      refine ⟨_, rfl, G2, [(wp, o2)], tm, n, os, rfl, S3, ho2, hos, hn, hn6, fun H6 tr S4' => ?_⟩
      have hms := reach_ok hos
      have idem := reach_idem hos
      generalize reachM n os = ms at S4' hms idem
      have lms := masks_len hn hn6 hms
      have S4 := S4'.sink
      have e4 := e1'.trans S4'.exS
      have hm4 : (upd G2 tr (.lst (ms.map V.int))) tr = some (.lst (ms.map V.int)) := upd_same
      generalize upd G2 tr (.lst (ms.map V.int)) = G4 at S4 e4 hm4
      have hsh : shutB n ms = true := by
        unfold shutB
        rw [idem]
        exact decide_eq_true rfl
      have hShut : Shut n ms := ⟨hms, idem⟩
      refine ⟨_, rfl, _, rfl, G4, [(wp, o2)], tr, n, ms, rfl, S4, Evl.sq_of (S4.ex _ _ hm4), hn, by omega, hms.2.1, lms, fun G5 tb H7 L e5 S5 tab htab => ?_⟩
      have hm5 := e5 _ _ hm4
      have e05 := e4.trans e5
      have are := tabOf_are htab
      have hL := lots_ok htab hn6
      have lL := lots_le htab hms hn hn6
      refine ⟨2, rfl, by decide, by decide, ?_⟩
      refine for_range (lo := 0) (n := 2) (fun i σ H' => ∃ (v7 v8 v9 v10 v11 v12 : Option V) (G : Hp) (o' : HO), σ = [some (.ref a), some (.int great), some (.int cell), some (.ref wp), some (.int n), some (.ref tr), some (.ref tb), v7, v8, v9, v10, v11, v12] ∧ Ex G5 G ∧ Has G H' [(wp, o')] ∧ WellO (1001 + 2000 * i) o') ⟨v7, v8, v9, v10, v11, v12, G5, o2, rfl, Evl.Ex.refl _, S5, w2⟩ ?_ ?_
      · rintro i σ H8 hi ⟨v7, v8, v9, v10, v11, v12, G, o3, rfl, e, S, w3⟩
        refine ⟨_, rfl, _, rfl, _, rfl, G, [], wp, tr, o3, 1001 + 2000 * i, n, ms, rfl, S, w3, by omega, by omega, e _ _ hm5, hms.2.1, by omega, fun G6 H9 o4 x b e6 S6 w4 ab lb hb ub => ?_⟩
        have pb : partP n b := ⟨by omega, hb, ub⟩
        have e56 := e.trans e6
        have tab6 := tab.ex e56
        have canE := can_eq are hb
        refine ⟨_, rfl, _, rfl, tb, n, L, x, b, rfl, tab6.ex S6.ex, hL, by omega, ab.ex S6.ex, by omega, ins_of hb, upB_asc ub, fun H10 e10 => ?_⟩
        have S7 := S6.go e10
        rw [canE]
        refine ⟨_, _, rfl, rfl, _, rfl, _, rfl, G6, [(wp, o4)], tb, n, L, ms, x, b, rfl, S7, tab6, htab, hn, hn6, hShut, ab, pb, fun H11 S8 => ?_⟩
        refine ⟨rfl, _, rfl, ?_⟩
        rw [show ∀ X : Bool, (!decide (V.bl (decide (X = true)) = V.bl X)) = false from fun X => by cases X <;> decide +kernel]
        refine ⟨_, rfl, _, rfl, tb, n, L, x, b, rfl, tab6.ex S8.ex, hL, by omega, ab.ex S8.ex, by omega, ins_of hb, upB_asc ub, fun H12 e12 => ?_⟩
        have S9 := S8.go e12
        rw [canE]
        cases hc : canM ms b with
        | false => exact ⟨_, rfl, _, _, _, _, _, _, G6, o4, rfl, e56, S9, w4.up (by omega)⟩
        | true =>
          refine ⟨_, rfl, _, rfl, _, rfl, use_cl S9 tab6 htab hn hn6 hShut ab pb hc fun Ga Ha fu ea Sa af => ?_⟩
          have lcl := cl_len ms n b
          have pcl := cl_part (n := n) hn6 hc
          obtain ⟨cl1, cl2⟩ := cl_between (ms := ms) (n := n) (b := b) (r := clM ms n b) (cl_sub hb) fun s hs => hs
          rw [hc] at cl2
          have tabA := tab6.ex ea
          have abA := ab.ex ea
          -- joint
          refine ⟨_, rfl, _, rfl, _, rfl, Ga, [(wp, o4)], tb, n, L, ms, x, b, rfl, Sa, tabA, htab, hn, hn6, hShut, abA, pb, hc, fun Gb Hb jo eb Sb aj => ?_⟩
          have afb := af.ex eb
          refine ⟨fu, jo, rfl, rep_bar (by omega) (afb.ex Sb.ex) (aj.ex Sb.ex), fun Hc ec => ⟨_, rfl, ?_⟩⟩
          have Sc := Sb.go ec
          have tabB := tabA.ex eb
          refine ⟨_, rfl, _, rfl, use_cl Sc tabB htab hn hn6 hShut afb pcl cl2 fun Gd Hd g1 ed Sd ag => ?_⟩
          rw [cl1] at ag
          have afd := afb.ex ed
          refine ⟨_, rfl, g1, fu, rfl, rep_bar (by omega) (ag.ex Sd.ex) (afd.ex Sd.ex), fun He ee => ⟨_, rfl, ?_⟩⟩
          have Se := Sd.go ee
          have tabD := tabB.ex ed
          have ead := (ea.trans eb).trans ed
          have abD := abA.ex (eb.trans ed)
          -- lost, rest
          refine ⟨Gd, wp, o4, 1001 + 2000 * i + 1002, fu, clM ms n b, rfl, rfl, Se, w4, by omega, afd, by omega, fun Hf o5 lo d Sf w5 al => ?_⟩
          obtain ⟨pf, yf, rfl, hpf, hyf⟩ := afd.bar
          have lyf : yf.length = (clM ms n b).length := by rw [hyf.1, List.length_map]
          refine ⟨_, rfl, pf, rfl, ⟨_, Evl.st_of (Sf.ex _ _ hpf)⟩, fun D1 nD1 => ?_⟩
          refine lc_tup (K := K) (xs := yf) (fun k H' => ∃ us : List V, Has Gd H' [(D1, .lst us), (wp, o5)] ∧ Ats Gd us ((((clM ms n b).take k).filter fun s => !decide (some s = d) || decide (s ∈ b)).map dSgn)) ⟨[], Sf.new nD1, .nil⟩ (fun k H' _ h => by
            obtain ⟨us, S', _⟩ := h
            exact Evl.st_of (S'.ex _ _ hpf)) ?_ ?_
          · rintro k m Hg hk ⟨us, Sg, hu⟩
            obtain ⟨s, hs, hSg⟩ := ats_get hyf hk
            have lu : us.length ≤ 12 := by
              have h1 := filt_len (fun s => !decide (some s = d) || decide (s ∈ b)) (clM ms n b) k
              rw [hu.1, List.length_map]
              omega
            refine ⟨rfl, _, rfl, _, rfl, dSgn s, dSO d, (hSg.ex Sg.ex).dp, (al.ex Sg.ex).dp, shaped_sgn s, shaped_so d, _, rfl, ?_⟩
            rw [eqv_so]
            have yes : (!decide (some s = d) || decide (s ∈ b)) = true → ∃ acc, Hg D1 = some (.lst acc) ∧ acc.length < sizeLine ∧ ∃ us : List V, Has Gd (upd Hg D1 (.lst (acc ++ [m]))) [(D1, .lst us), (wp, o5)] ∧ Ats Gd us ((((clM ms n b).take (k + 1)).filter fun s => !decide (some s = d) || decide (s ∈ b)).map dSgn) := fun hq => by
              refine ⟨_, Sg.get 0 rfl, szl (by omega), us ++ [m], Sg.set 0 rfl, ?_⟩
              rw [filt_yes (f := fun s => !decide (some s = d) || decide (s ∈ b)) hs hq, List.map_append]
              exact hu.snoc hSg
            cases hq : (!decide (some s = d)) with
            | true => exact ⟨_, rfl, yes (by rw [hq]; rfl)⟩
            | false =>
              refine ⟨_, rfl, _, rfl, dSgn s, b.map dSgn, (hSg.ex Sg.ex).dp, (abD.ex Sg.ex).dp, shaped_sgn s, shaped_bar b, _, rfl, ?_⟩
              rw [any_bar]
              cases hq2 : decide (s ∈ b) with
              | true => exact ⟨_, rfl, yes (by rw [hq, hq2]; rfl)⟩
              | false =>
                refine ⟨us, Sg, ?_⟩
                rw [filt_no (f := fun s => !decide (some s = d) || decide (s ∈ b)) hs (by rw [hq, hq2]; rfl)]
                exact hu
          rintro Hg ⟨us, Sg, hu⟩
          rw [lyf, List.take_length] at hu
          refine ⟨D1, us, rfl, .inl ⟨Evl.sq_of (Sg.get 0 rfl), fun r1 nr1 => ?_⟩⟩
          have Sh' := Sg.tail.new (o := .tup us) nr1
          have Sh := Sh'.sink
          have eh := Sh'.exS
          have ar : At (upd Gd r1 (.tup us)) (.ref r1) (dBar ((clM ms n b).filter fun s => !decide (some s = d) || decide (s ∈ b))) := At.mkT upd_same (hu.ex Sh'.exS)
          generalize upd Gd r1 (.tup us) = Gh at Sh eh ar
          generalize upd Hg r1 (.tup us) = Hh at Sh
          have subr : ∀ s ∈ (clM ms n b).filter fun s => !decide (some s = d) || decide (s ∈ b), s ∈ clM ms n b := fun s hs => (List.mem_filter.mp hs).1
          have supr : ∀ s ∈ b, s ∈ (clM ms n b).filter fun s => !decide (some s = d) || decide (s ∈ b) := fun s hs => List.mem_filter.mpr ⟨cl_sub hb s hs, by rw [decide_eq_true hs, Bool.or_true]⟩
          obtain ⟨cr1, cr2⟩ := cl_between (ms := ms) (n := n) supr subr
          rw [hc] at cr2
          have pr : partP n ((clM ms n b).filter fun s => !decide (some s = d) || decide (s ∈ b)) := ⟨Nat.le_trans (List.length_filter_le _ _) (by omega), fun s hs => cl_lt s (subr s hs), List.Pairwise.sublist List.filter_sublist (cl_up hc)⟩
          generalize ((clM ms n b).filter fun s => !decide (some s = d) || decide (s ∈ b)) = rr at ar cr1 cr2 pr
          have tabH := tabD.ex eh
          have afH := afd.ex eh
          refine ⟨_, rfl, _, rfl, use_cl Sh tabH htab hn hn6 hShut ar pr cr2 fun Gi Hi g2 ei Si ag2 => ?_⟩
          rw [cr1] at ag2
          refine ⟨_, rfl, g2, .ref pf, rfl, rep_bar (by omega) (ag2.ex Si.ex) ((afH.ex ei).ex Si.ex), fun Hj ej => ⟨_, rfl, ?_⟩⟩
          have Sj := Si.go ej
          -- all literals
          refine ⟨_, rfl, Gi, [(wp, o5)], n, rfl, Sj, by omega, fun Gk t4 x4 Hk ek Sk' a4' => ?_⟩
          have Sk := Sk'.sink
          have a4 := a4'.ex Sk'.exS
          have ehk := eh.trans (ei.trans (ek.trans Sk'.exS))
          have ht4 : (upd Gk t4 (.lst x4)) t4 = some (.lst x4) := upd_same
          generalize upd Gk t4 (.lst x4) = Gl at Sk a4 ehk ht4
          have tabL := tabD.ex ehk
          have abL := abD.ex ehk
          have afL := afd.ex ehk
          have e5L := (e56.trans ead).trans ehk
          refine ⟨t4, rfl, ⟨_, Evl.sq_of (Sk.ex _ _ ht4)⟩, for_list (K := K) (a := t4) (xs := x4) (fun j σ H' => ∃ (v12 : Option V) (G : Hp), σ = [some (.ref a), some (.int great), some (.int cell), some (.ref wp), some (.int n), some (.ref tr), some (.ref tb), some (.int (0 + (i : Int))), some x, some (.ref pf), some lo, some (.ref r1), v12] ∧ Ex Gl G ∧ Has G H' [(wp, o5)]) ⟨_, Gl, rfl, Evl.Ex.refl _, Sk⟩ (fun j σ H' _ p => ?_) ?_ ?_⟩
          · obtain ⟨_, G, _, e, S⟩ := p
            exact Evl.sq_of (S.ex _ _ (e _ _ ht4))
          · rintro j y σ Hm hj ⟨v12, Gm, rfl, em, Sm⟩
            obtain ⟨sg, hsg, hSg⟩ := ats_get a4 hj
            have hsn := allS_lt (List.mem_of_getElem? hsg)
            have tabM := tabL.ex em
            have abM := abL.ex em
            have afM := afL.ex em
            have agM := hSg.ex em
            refine ⟨_, rfl, _, rfl, _, rfl, _, rfl, tb, n, L, ms, x, .ref pf, y, b, sg, rfl, tabM.ex Sm.ex, htab, hn, hn6, hShut, hsh, abM.ex Sm.ex, pb, hc, afM.ex Sm.ex, agM.ex Sm.ex, hsn, fun Hn en => ⟨_, rfl, ?_⟩⟩
            have Sn := Sm.go en
            refine ⟨_, rfl, _, rfl, _, rfl, Gm, [(wp, o5)], tb, n, L, ms, x, y, b, sg, rfl, Sn, tabM, htab, hms, hn, hn6, abM, pb, agM, hsn, (fun h0 => by rw [hsh] at h0; cases h0), (fun _ h0 => by rw [hc] at h0; cases h0), fun _ _ _ Go Ho xx eo So axx => ?_⟩
            refine ⟨rfl, ?_⟩
            rw [opt_none axx, why_none hShut hb hc]
            refine ⟨_, rfl, _, rfl, dSgn sg, (clM ms n b).map dSgn, ((agM.ex eo).ex So.ex).dp, ((afM.ex eo).ex So.ex).dp, shaped_sgn _, shaped_bar _, ?_⟩
            rw [any_bar]
            refine ⟨rfl, _, rfl, ?_⟩
            rw [show ∀ c : Bool, (!decide (V.bl c = V.bl c)) = false from fun c => by rw [decide_eq_true rfl]; rfl]
            exact ⟨_, Go, rfl, em.trans eo, So⟩
          · rintro σ Hm ⟨v12, Gm, rfl, em, Sm⟩
            exact ⟨_, _, _, _, _, _, Gm, o5, rfl, e5L.trans em, Sm, w5.up (by omega)⟩
      · rintro σ H8 ⟨v7, v8, v9, v10, v11, v12, G, o3, rfl, e, S, w3⟩
        exact ⟨e2.trans ((e05.trans e).trans S.ex), _, _, _, _, _, _, _, _, _, _, _, rfl⟩
    · rintro σ H2 ⟨e2, v2, v3, v4, v5, v6, v7, v8, v9, v10, v11, v12, rfl⟩
      exact q H2
end
end TW
set_option Elab.async false
set_option linter.all false
set_option maxRecDepth 100000
namespace TW
open PySem PySem.Spec PyProof.Rows L2
/-! what the top has written -/
def MthD (K : PySem.W.Frag) (C : Addr) (nm qual : Str) (st : Stmt) (ps : List Str) : Prop := ∃ (f : Addr) (fd : FuncData), PySem.W.findIn K (.ref C) nm = some (some (.ref f)) ∧ PySem.W.isFn K (.ref f) = true ∧ Fun K nm qual st f fd ∧ Binds K fd ps []
def PrpD (K : PySem.W.Frag) (C : Addr) (nm qual : Str) (st : Stmt) : Prop := ∃ (p g : Addr) (fd : FuncData), PropOf K C nm p g ∧ Fun K nm qual st g fd ∧ Binds K fd ["self"] []
section
variable {K : PySem.W.Frag} {C f p g : Addr} {nm qual : Str} {st : Stmt} {ps : List Str} {oc kV doc pm cdv ct : Value} {od an : Option Addr} {osl : Array (Option Value)}
theorem mth_mk (hb : ∀ (kV doc pm : Value) (an : Option Addr) (cdv ct : Value) (us : List Value), us.length = ps.length → bindArgs (PySem.W.fnOf nm qual (defArgs st) (defBody st) (defScope st) .none kV doc pm an cdv ct) ⟨us, []⟩ = pure (ps.zip us))
    (a : PySem.W.findIn K (.ref C) nm = some (some (.ref f))) (i : PySem.W.isFn K (.ref f) = true) (l : K.lookup f = some ⟨oc, od, .func (PySem.W.fnOf nm qual (defArgs st) (defBody st) (defScope st) .none kV doc pm an cdv ct), osl⟩) (c : PySem.W.codeIn K cdv qual = true) (k : PySem.W.keepIn K (.ref f) = true) : MthD K C nm qual st ps := by
  have F := fun_mk (st := st) l c k
  exact ⟨f, _, a, i, F, F.binds hb⟩
theorem prp_mk {rest : List Value} (hb : ∀ (kV doc pm : Value) (an : Option Addr) (cdv ct : Value) (us : List Value), us.length = 1 → bindArgs (PySem.W.fnOf nm qual (defArgs st) (defBody st) (defScope st) .none kV doc pm an cdv ct) ⟨us, []⟩ = pure ((["self"] : List Str).zip us))
    (a : PySem.W.findIn K (.ref C) nm = some (some (.ref p))) (e : PySem.W.specialIn K (.ref p) "__get__" = some (some (.builtin "property.__get__"))) (t : PySem.W.takesIn K (.ref p) = some true) (r : PySem.W.recIn K p "property" = some (.ref g :: rest))
    (l : K.lookup g = some ⟨oc, od, .func (PySem.W.fnOf nm qual (defArgs st) (defBody st) (defScope st) .none kV doc pm an cdv ct), osl⟩) (c : PySem.W.codeIn K cdv qual = true) (k : PySem.W.keepIn K (.ref g) = true) : PrpD K C nm qual st := by
  have F := fun_mk (st := st) l c k
  exact ⟨p, g, _, ⟨a, e, t, rest, r⟩, F, F.binds hb⟩
theorem kit_me : PySem.W.kitOne K (.ref C) (.ref C) = some true := by
  unfold PySem.W.kitOne
  first
    | rw [if_pos (beq_self_eq_true (Value.ref C))]
    | simp
    | (rw [if_pos]; decide)
theorem tc_mk {mg : Str → Option Value} {h : Heap} (X : K.In h) (G : h.Ns mainGlobals mg) (aC : PySem.W.nsIn K mainGlobals "Table" = some (some (.ref C))) (pg : PySem.W.plainGet K C Str.empty = true) (hd : PySem.W.hasDictIn K C = true) (po : PySem.W.plainOver K C = true)
    (sa : PySem.W.findIn K (.ref C) "__setattr__" = some (some (.builtin "object.__setattr__"))) (ha : PySem.W.findIn K (.ref C) "__class__" = some (some (.builtin "object.__class__"))) (hn : PySem.W.specialIn K (.builtin "object.__class__") "__get__" = some (some (.builtin "getset_descriptor.__get__")))
    (ht : PySem.W.takesIn K (.builtin "object.__class__") = some true) (hm : PySem.W.mroIn K C (.type "object") = some true) (nT : PySem.W.findIn K (.ref C) "_things" = some none) (nL : PySem.W.findIn K (.ref C) "_lots" = some none) : TC K mg C :=
  ⟨⟨pg, hd, po, sa⟩, ⟨⟨pg, hd, po, sa⟩, ha, hn, ht, hm, kit_me⟩, nT, nL, PySem.W.mg_of X G aC⟩
end
theorem z_mk {K : PySem.W.Frag} {mg : Str → Option Value} {h : Heap} (X : K.In h) (G : h.Ns mainGlobals mg)
    (h1 : PySem.W.nsIn K mainGlobals "len" = some none) (h2 : PySem.W.nsIn K mainGlobals "int" = some none) (h3 : PySem.W.nsIn K mainGlobals "all" = some none) (h4 : PySem.W.nsIn K mainGlobals "sorted" = some none) (h5 : PySem.W.nsIn K mainGlobals "tuple" = some none)
    (h6 : PySem.W.nsIn K mainGlobals "list" = some none) (h7 : PySem.W.nsIn K mainGlobals "set" = some none) (h8 : PySem.W.nsIn K mainGlobals "type" = some none) (h9 : PySem.W.nsIn K mainGlobals "isinstance" = some none) (h10 : PySem.W.nsIn K mainGlobals "zip" = some none)
    (h11 : PySem.W.nsIn K mainGlobals "range" = some none) (h12 : PySem.W.nsIn K mainGlobals "bool" = some none) (h13 : PySem.W.nsIn K mainGlobals "any" = some none) (h14 : PySem.W.nsIn K mainGlobals "iter" = some none) (h15 : PySem.W.nsIn K mainGlobals "property" = some none) : Z mg :=
  ⟨PySem.W.mg_none_of X G h1, PySem.W.mg_none_of X G h2, PySem.W.mg_none_of X G h3, PySem.W.mg_none_of X G h4, PySem.W.mg_none_of X G h5, PySem.W.mg_none_of X G h6, PySem.W.mg_none_of X G h7, PySem.W.mg_none_of X G h8, PySem.W.mg_none_of X G h9, PySem.W.mg_none_of X G h10, PySem.W.mg_none_of X G h11, PySem.W.mg_none_of X G h12, PySem.W.mg_none_of X G h13, PySem.W.mg_none_of X G h14, PySem.W.mg_none_of X G h15⟩
end TW
set_option Elab.async false
set_option linter.all false
set_option maxRecDepth 100000
namespace TW
open PySem PySem.Spec PyProof.Rows L2
theorem exm_me {K : PySem.W.Frag} {N : Addr} (h1 : PySem.W.subIn K (.ref N) (.type "BaseException") = some true) (h2 : PySem.W.isClsIn K N = true) (h3 : PySem.W.typeIn K (.ref N) = some (.type "type")) (h4 : PySem.W.subIn K (.ref N) (.ref N) = some true) : PySem.W.exmOne K (.ref N) (.ref N) = some true := by
  have h2' : (PySem.W.clsIn K N).isSome = true := h2
  have e1 : (PySem.W.subIn K (.ref N) (.type "BaseException") == some true) = true := by rw [h1]; rfl
  have e2 : ((PySem.W.clsIn K N).isSome && PySem.W.typeIn K (.ref N) == some (.type "type")) = true := by rw [h2', h3]; rfl
  change (if (PySem.W.subIn K (.ref N) (.type "BaseException") == some true) = true then (if ((PySem.W.clsIn K N).isSome && PySem.W.typeIn K (.ref N) == some (.type "type")) = true then PySem.W.subIn K (.ref N) (.ref N) else none) else none) = some true
  rw [if_pos e1, if_pos e2, h4]
theorem tn_mk {K : PySem.W.Frag} {mg : Str → Option Value} {h : Heap} {N : Addr} {x : Str} (X : K.In h) (G : h.Ns mainGlobals mg) (a : PySem.W.nsIn K mainGlobals x = some (some (.ref N))) (ex : PySem.W.excIn K N [.type "ValueError", .type "Exception", .type "BaseException", .type "object"] "ValueError.__new__" = true)
    (k : PySem.W.keepIn K (.ref N) = true) (b : PySem.W.subIn K (.ref N) (.type "BaseException") = some true) (t : PySem.W.typeIn K (.ref N) = some (.type "type")) (ic : PySem.W.isClsIn K N = true) (se : PySem.W.subIn K (.ref N) (.ref N) = some true) : TN K mg x N :=
  ⟨PySem.W.mg_of X G a, ex, k, b, t, exm_me b ic t se⟩
theorem all_law {l : PySem.W.OpenLaw} {w : World} {K : PySem.W.Frag} {mg : Str → Option Value} {fa C N Q : Addr} (hfa : mg "law" = some (.ref fa)) (z : Z mg) (zs : mg "str" = none) (TEN : TN K mg "NoLot" N) (TEQ : TN K mg "NotClosed" Q) (T : TC K mg C) (mk : PySem.W.makesIn K C = true) (kc : PySem.W.keepIn K (.ref C) = true)
    (m_i : MthD K C "__init__" "Table.__init__" s_Table_init ["self", "things", "lots"]) (m_t : MthD K C "__iter__" "Table.__iter__" s_Table_iter ["self"]) (m_l : MthD K C "__len__" "Table.__len__" s_Table_len ["self"]) (p_things : PrpD K C "things" "Table.things" s_Table_things)
    (d1 : Dfn K mg "is_integer" s_is_integer ["value", "least"])
    (d2 : Dfn K mg "is_thing" s_is_thing ["value", "things"])
    (d3 : Dfn K mg "is_ascending" s_is_ascending ["values"])
    (d4 : Dfn K mg "is_lot" s_is_lot ["value", "things"])
    (d5 : Dfn K mg "is_literal" s_is_literal ["value", "things"])
    (d6 : Dfn K mg "is_part" s_is_part ["value", "things"])
    (d7 : Dfn K mg "is_rule" s_is_rule ["value", "things"])
    (d8 : Dfn K mg "check_things" s_check_things ["things"])
    (d9 : Dfn K mg "check_lot" s_check_lot ["lot", "things"])
    (d10 : Dfn K mg "check_literal" s_check_literal ["literal", "things"])
    (d11 : Dfn K mg "check_rules" s_check_rules ["rules", "things"])
    (d12 : Dfn K mg "check_part" s_check_part ["part", "things"])
    (d13 : Dfn K mg "check_table" s_check_table ["table"])
    (d14 : Dfn K mg "meets" s_meets ["lot", "literal"])
    (d15 : Dfn K mg "keeps" s_keeps ["lot", "rule"])
    (d16 : Dfn K mg "keeps_all" s_keeps_all ["lot", "rules"])
    (d17 : Dfn K mg "has_rule" s_has_rule ["table", "rule"])
    (d18 : Dfn K mg "all_literals" s_all_literals ["things"])
    (d19 : Dfn K mg "all_lots" s_all_lots ["things"])
    (d20 : Dfn K mg "rules_of" s_rules_of ["table"])
    (d21 : Dfn K mg "table_of" s_table_of ["things", "rules"])
    (d22 : Dfn K mg "closed_table" s_closed_table ["table"])
    (d23 : Dfn K mg "is_closed" s_is_closed ["table"])
    (d24 : Dfn K mg "check_closed" s_check_closed ["table"])
    (d25 : Dfn K mg "contrary" s_contrary ["literal"])
    (d26 : Dfn K mg "fits" s_fits ["lot", "part"])
    (d27 : Dfn K mg "can_be" s_can_be ["table", "part"])
    (d28 : Dfn K mg "closure" s_closure ["table", "part"])
    (d29 : Dfn K mg "clash" s_clash ["table", "part"])
    (d30 : Dfn K mg "why" s_why ["table", "part", "literal"])
    (d31 : Dfn K mg "fitting_lots" s_fitting_lots ["table", "part"])
    (d32 : Dfn K mg "_pairs" s__pairs ["part"])
    (d33 : Dfn K mg "_law_draws_of" s__law_draws_of ["cell"])
    (d34 : Dfn K mg "_law_dip" s__law_dip ["well", "upto"])
    (d35 : Dfn K mg "_law_same" s__law_same ["given", "due"])
    (d36 : Dfn K mg "_law_lot_of" s__law_lot_of ["mask", "wide"])
    (d37 : Dfn K mg "_law_met" s__law_met ["mask", "sign"])
    (d38 : Dfn K mg "_law_all_kept" s__law_all_kept ["mask", "bars"])
    (d39 : Dfn K mg "_law_all_signs" s__law_all_signs ["wide"])
    (d40 : Dfn K mg "_law_one_sign" s__law_one_sign ["well", "wide"])
    (d41 : Dfn K mg "_law_one_bar" s__law_one_bar ["well", "wide"])
    (d42 : Dfn K mg "_law_some_bars" s__law_some_bars ["well", "wide", "most"])
    (d43 : Dfn K mg "_law_some_masks" s__law_some_masks ["well", "wide"])
    (d44 : Dfn K mg "_law_make_table" s__law_make_table ["wide", "masks"])
    (d45 : Dfn K mg "_law_reached" s__law_reached ["masks", "wide"])
    (d46 : Dfn K mg "_law_width" s__law_width ["well"])
    (d47 : Dfn K mg "_law_some_part" s__law_some_part ["well", "wide", "masks"])
    (d48 : Dfn K mg "_law_pairs_can" s__law_pairs_can ["book", "told"])
    (d49 : Dfn K mg "_law_joint" s__law_joint ["book", "told"])
    (d50 : Dfn K mg "_law_more" s__law_more ["book", "told", "full", "sign"])
    (d51 : Dfn K mg "law" s_law ["script"]) :
    ∃ fd : FuncData, (∀ (s : Shared) (v : Value), BindsTo s fd ⟨[v], []⟩ [("script", v)]) ∧ ∀ base : Heap, K.In base → base.Ns mainGlobals mg → FnOk l.prog w K mg base CX0 13 fa fd ["script"] (spLaw K) := by
  obtain ⟨f, fd, F, g, b⟩ := d51
  have e := hfa.symm.trans g
  cases e
  obtain ⟨fi, fdi, ai, ii, Fi, bi⟩ := m_i
  obtain ⟨ft, fdt, at_, it, Ft, bt⟩ := m_t
  obtain ⟨fl, fdl, al, il, Fl, bl⟩ := m_l
  obtain ⟨pp, pg, pfd, Pp, PF, Pb⟩ := p_things
  refine ⟨fd, fun s v => ?_, fun base _ _ => ?_⟩
  · obtain ⟨oc, od, kV, doc, pm, an, cdv, ct, osl, rfl, lk, hcd⟩ := F.ex
    exact .of_eq rfl
  · have O1 := ok_is_integer (P := l.prog) (w := w) (base := base) d1 z
    have O2 := ok_is_thing d2 O1
    have O3 := ok_is_ascending (P := l.prog) (w := w) (base := base) d3 z
    have O3L := ok_is_ascendingL (K := K) (P := l.prog) (w := w) (base := base) d3 z
    have O4 := ok_is_lot d4 z O2 O3
    have O5 := ok_check_things d8 O1
    have O6 := ok_check_lot d9 O4
    have O7 := ok_is_literal d5 z zs O2
    have O9 := ok_is_part d6 z O7 O3L
    have O10 := ok_check_part d12 O9
    have Orule := ok_is_rule d7 z O9
    have Orules := ok_check_rules d11 z Orule
    have M : TM l.prog w K mg base C fi fdi := ⟨⟨mk, ai, ii, kc⟩, ok_init Fi z T O5 O4, bi⟩
    have It : TI l.prog w K mg base C ft fdt := ⟨at_, it, ok_iter Ft z T, bt⟩
    have LN : TLn l.prog w K mg base C fl fdl := ⟨al, il, ok_len Fl z T, bl⟩
    have PT : TG l.prog w K mg base C pp pg pfd "things" (spThings C) := ⟨Pp, ok_things PF T, Pb⟩
    have O11 := ok_check_table (P := l.prog) (w := w) (base := base) d13 z T
    have O12 := ok_meets (K := K) (P := l.prog) (w := w) (base := base) d14
    have Okeeps := ok_keeps d15 z O12
    have Okall := ok_keeps_all d16 Okeeps
    have Olots := ok_all_lots (P := l.prog) (w := w) (base := base) d19 z
    have O13 := ok_all_literals (P := l.prog) (w := w) (base := base) d18 z
    have Ohas := ok_has_rule d17 It Okeeps
    obtain ⟨cf, cfd, CF, cg, cb⟩ := d21
    have RT := fn_table_of CF z T TEN M O5 Orules Olots Okall
    obtain ⟨rf, rfd, RF, rg, rb⟩ := d20
    have RR := fn_rules_of RF z T PT O11 O13 Ohas
    have Oro : Ok l.prog w K mg base 5 "rules_of" ["table"] (spRulesOf C) := ⟨rf, rfd, RR, rg, RF.kp, rb⟩
    obtain ⟨df, dfd, DF', dg, db⟩ := d22
    have Ocl : Ok l.prog w K mg base 8 "closed_table" ["table"] (spClosed C) := ⟨df, dfd, fn_closed_table DF' T PT O11 Oro RT cg CF.kp cb, dg, DF'.kp, db⟩
    have Ois := ok_is_closed d23 z LN Ocl
    obtain ⟨kf, kfd, KF, kg, kb⟩ := d24
    have RK := fn_check_closed KF TEQ Ois
    have O8 := ok_check_literal d10 O7
    obtain ⟨ff, ffd, FF, fg, fb⟩ := d26
    have OF : Ok l.prog w K mg base 6 "fits" ["lot", "part"] (spFits K) := ⟨ff, ffd, fn_fits FF z O6 O10 O12, fg, FF.kp, fb⟩
    have O16 := ok_fitting_lots d31 It OF
    obtain ⟨bf, bfd, BF, bg, bb⟩ := d27
    have Ocan : Ok l.prog w K mg base 8 "can_be" ["table", "part"] (spCanBe C) := ⟨bf, bfd, fn_can_be BF z T PT O11 O10 O16, bg, BF.kp, bb⟩
    obtain ⟨cf2, cfd2, CF2, cg2, cb2⟩ := d28
    have RCl := fn_closure CF2 z T TEN PT O11 O10 O16 O13 O12
    obtain ⟨nf, nfd, NF, ng, nb⟩ := d25
    have Ocon : Ok l.prog w K mg base 5 "contrary" ["literal"] spContrary := ⟨nf, nfd, fn_contrary NF O8, ng, NF.kp, nb⟩
    have Opairs := ok_pairs (K := K) (P := l.prog) (w := w) (base := base) d32
    obtain ⟨xf, xfd, XF, xg, xb⟩ := d29
    have RX := fn_clash XF z T PT O11 O10 RK kg KF.kp kb Ocan Opairs
    obtain ⟨hf, hfd, HF, hg, hb⟩ := d30
    have RC := fn_why HF z T PT O11 O10 O8 RK kg KF.kp kb RCl cg2 CF2.kp cb2 Ocon Ohas
    have W0 := ok_same (P := l.prog) (w := w) (base := base) d35 z
    have W1 := ok_drawsW (ok_draws (P := l.prog) (w := w) (base := base) d33 z)
    have W2 := ok_dipW (ok_dip (P := l.prog) (w := w) (base := base) d34 z)
    have W4 := ok_lot_of (P := l.prog) (w := w) (base := base) d36 z
    have W5 := ok_met (P := l.prog) (w := w) (base := base) d37 z
    have W7 := ok_kept d38 z W5
    have W8 := ok_one_sign d40 W2
    have W9 := ok_one_bar d41 z W2 W8
    have W10 := ok_some_bars d42 z W2 W9
    have W11 := ok_some_masks d43 z W2 W7 W10
    have W12 := ok_make_table d44 T M W4
    have W13 := ok_width d46 W2
    have W14 := ok_reached (P := l.prog) (w := w) (base := base) d45 z
    have V1 := ok_all_signs (P := l.prog) (w := w) (base := base) d39 z
    have V2 := ok_some_part d47 z W2
    have V3 := ok_pairs_can d48 z Ocan
    have V4 := ok_joint d49 z RCl cg2 CF2.kp cb2
    have V5 := ok_more d50 z Ocan RCl cg2 CF2.kp cb2 RX xg XF.kp xb (ok_same (P := l.prog) (w := w) (base := base) d35 z)
    exact ok_law F z W1 W2 W13 W11 W14 W12 V2 V1 Ocan V3 V4 V5 RCl cg2 CF2.kp cb2 RC hg HF.kp hb (ok_same (P := l.prog) (w := w) (base := base) d35 z)
end TW
open PySem PySem.W PyProof.Rows
set_option maxHeartbeats 0 in
theorem PySem.Challenge.cw_thingwise_k14_whole_closures_by_single_l_holds : PySem.Challenge.rw_thingwise_k14_whole_closures_by_single_l.Holds := by
  w_on; o_law; k_head; (case hw => w_witness2)
  k_fill
  refine L2.walk_ofB (l := PySem.Challenge.rw_thingwise_k14_whole_closures_by_single_l) (n := 63) (k := 13) (x := "script") (CX := fun _ => L2.CX0) (sp := fun w => TW.spLaw _) rfl (by decide) rfl ⟨rfl, by decide, by decide⟩ (fun w h Y => PySem.W.kIn_of Y) ?F (fun _ _ a ns hl _ _ hS => ⟨a, ns, rfl, hS, hl, fun _ => rfl⟩) (fun _ _ _ _ _ h => h)
  case F =>
    intro w mg fa h KX G hmg
    have z : TW.Z mg := by
      refine' TW.z_mk KX G ?_ ?_ ?_ ?_ ?_ ?_ ?_ ?_ ?_ ?_ ?_ ?_ ?_ ?_ ?_
      all_goals k_is
    have zs : mg "str" = none := by
      refine' PySem.W.mg_none_of KX G ?_
      k_is
    refine' TW.all_law (C := ?C) (N := ?atN) (Q := ?atQ) hmg z zs  ?TEN ?TEQ ?T ?mk ?kc ?m_i ?m_t ?m_l ?p_things ?d1 ?d2 ?d3 ?d4 ?d5 ?d6 ?d7 ?d8 ?d9 ?d10 ?d11 ?d12 ?d13 ?d14 ?d15 ?d16 ?d17 ?d18 ?d19 ?d20 ?d21 ?d22 ?d23 ?d24 ?d25 ?d26 ?d27 ?d28 ?d29 ?d30 ?d31 ?d32 ?d33 ?d34 ?d35 ?d36 ?d37 ?d38 ?d39 ?d40 ?d41 ?d42 ?d43 ?d44 ?d45 ?d46 ?d47 ?d48 ?d49 ?d50 ?d51
    case TEN =>
      refine' TW.tn_mk KX G ?g ?ex ?kk ?b ?t ?ic ?se
      (case g => k_is); (case ex => k_exc); (case kk => k_is); (case b => k_is); (case t => k_is); (case ic => k_is); (case se => first | rfl | k_is)
    case TEQ =>
      refine' TW.tn_mk KX G ?g ?ex ?kk ?b ?t ?ic ?se
      (case g => k_is); (case ex => k_exc); (case kk => k_is); (case b => k_is); (case t => k_is); (case ic => k_is); (case se => first | rfl | k_is)
    case T =>
      refine' TW.tc_mk KX G ?aC ?pg ?hd ?po ?sa ?ha ?hn ?ht ?hm ?nT ?nL
      (case aC => k_is); (case pg => k_is); (case hd => k_is); (case po => k_is); (case sa => k_is); (case ha => k_is); (case hn => k_is); (case ht => k_is); (case hm => k_is); (case nT => k_is); (case nL => k_is)
    case mk => k_is
    case kc => k_is
    case m_i => refine' TW.mth_mk (fun _ _ _ _ _ _ us hl => match us, hl with | [_, _, _], _ => rfl) ?a ?i ?l ?c ?k; (case a => k_is); (case i => k_is); (case l => k_is); (case c => k_is); (case k => k_is)
    case m_t => refine' TW.mth_mk (fun _ _ _ _ _ _ us hl => match us, hl with | [_], _ => rfl) ?a ?i ?l ?c ?k; (case a => k_is); (case i => k_is); (case l => k_is); (case c => k_is); (case k => k_is)
    case m_l => refine' TW.mth_mk (fun _ _ _ _ _ _ us hl => match us, hl with | [_], _ => rfl) ?a ?i ?l ?c ?k; (case a => k_is); (case i => k_is); (case l => k_is); (case c => k_is); (case k => k_is)
    case p_things => refine' TW.prp_mk (fun _ _ _ _ _ _ us hl => match us, hl with | [_], _ => rfl) ?a ?e ?t ?r ?l ?c ?k; (case a => k_is); (case e => k_is); (case t => k_is); (case r => k_is); (case l => k_is); (case c => k_is); (case k => k_is)
    case d1 => refine' TW.dfn_mk KX G (fun _ _ _ _ _ _ _ us hl => match us, hl with | [_, _], _ => rfl) ?a ?l ?c ?k; (case a => k_is); (case l => k_is); (case c => k_is); (case k => k_is)
    case d2 => refine' TW.dfn_mk KX G (fun _ _ _ _ _ _ _ us hl => match us, hl with | [_, _], _ => rfl) ?a ?l ?c ?k; (case a => k_is); (case l => k_is); (case c => k_is); (case k => k_is)
    case d3 => refine' TW.dfn_mk KX G (fun _ _ _ _ _ _ _ us hl => match us, hl with | [_], _ => rfl) ?a ?l ?c ?k; (case a => k_is); (case l => k_is); (case c => k_is); (case k => k_is)
    case d4 => refine' TW.dfn_mk KX G (fun _ _ _ _ _ _ _ us hl => match us, hl with | [_, _], _ => rfl) ?a ?l ?c ?k; (case a => k_is); (case l => k_is); (case c => k_is); (case k => k_is)
    case d5 => refine' TW.dfn_mk KX G (fun _ _ _ _ _ _ _ us hl => match us, hl with | [_, _], _ => rfl) ?a ?l ?c ?k; (case a => k_is); (case l => k_is); (case c => k_is); (case k => k_is)
    case d6 => refine' TW.dfn_mk KX G (fun _ _ _ _ _ _ _ us hl => match us, hl with | [_, _], _ => rfl) ?a ?l ?c ?k; (case a => k_is); (case l => k_is); (case c => k_is); (case k => k_is)
    case d7 => refine' TW.dfn_mk KX G (fun _ _ _ _ _ _ _ us hl => match us, hl with | [_, _], _ => rfl) ?a ?l ?c ?k; (case a => k_is); (case l => k_is); (case c => k_is); (case k => k_is)
    case d8 => refine' TW.dfn_mk KX G (fun _ _ _ _ _ _ _ us hl => match us, hl with | [_], _ => rfl) ?a ?l ?c ?k; (case a => k_is); (case l => k_is); (case c => k_is); (case k => k_is)
    case d9 => refine' TW.dfn_mk KX G (fun _ _ _ _ _ _ _ us hl => match us, hl with | [_, _], _ => rfl) ?a ?l ?c ?k; (case a => k_is); (case l => k_is); (case c => k_is); (case k => k_is)
    case d10 => refine' TW.dfn_mk KX G (fun _ _ _ _ _ _ _ us hl => match us, hl with | [_, _], _ => rfl) ?a ?l ?c ?k; (case a => k_is); (case l => k_is); (case c => k_is); (case k => k_is)
    case d11 => refine' TW.dfn_mk KX G (fun _ _ _ _ _ _ _ us hl => match us, hl with | [_, _], _ => rfl) ?a ?l ?c ?k; (case a => k_is); (case l => k_is); (case c => k_is); (case k => k_is)
    case d12 => refine' TW.dfn_mk KX G (fun _ _ _ _ _ _ _ us hl => match us, hl with | [_, _], _ => rfl) ?a ?l ?c ?k; (case a => k_is); (case l => k_is); (case c => k_is); (case k => k_is)
    case d13 => refine' TW.dfn_mk KX G (fun _ _ _ _ _ _ _ us hl => match us, hl with | [_], _ => rfl) ?a ?l ?c ?k; (case a => k_is); (case l => k_is); (case c => k_is); (case k => k_is)
    case d14 => refine' TW.dfn_mk KX G (fun _ _ _ _ _ _ _ us hl => match us, hl with | [_, _], _ => rfl) ?a ?l ?c ?k; (case a => k_is); (case l => k_is); (case c => k_is); (case k => k_is)
    case d15 => refine' TW.dfn_mk KX G (fun _ _ _ _ _ _ _ us hl => match us, hl with | [_, _], _ => rfl) ?a ?l ?c ?k; (case a => k_is); (case l => k_is); (case c => k_is); (case k => k_is)
    case d16 => refine' TW.dfn_mk KX G (fun _ _ _ _ _ _ _ us hl => match us, hl with | [_, _], _ => rfl) ?a ?l ?c ?k; (case a => k_is); (case l => k_is); (case c => k_is); (case k => k_is)
    case d17 => refine' TW.dfn_mk KX G (fun _ _ _ _ _ _ _ us hl => match us, hl with | [_, _], _ => rfl) ?a ?l ?c ?k; (case a => k_is); (case l => k_is); (case c => k_is); (case k => k_is)
    case d18 => refine' TW.dfn_mk KX G (fun _ _ _ _ _ _ _ us hl => match us, hl with | [_], _ => rfl) ?a ?l ?c ?k; (case a => k_is); (case l => k_is); (case c => k_is); (case k => k_is)
    case d19 => refine' TW.dfn_mk KX G (fun _ _ _ _ _ _ _ us hl => match us, hl with | [_], _ => rfl) ?a ?l ?c ?k; (case a => k_is); (case l => k_is); (case c => k_is); (case k => k_is)
    case d20 => refine' TW.dfn_mk KX G (fun _ _ _ _ _ _ _ us hl => match us, hl with | [_], _ => rfl) ?a ?l ?c ?k; (case a => k_is); (case l => k_is); (case c => k_is); (case k => k_is)
    case d21 => refine' TW.dfn_mk KX G (fun _ _ _ _ _ _ _ us hl => match us, hl with | [_, _], _ => rfl) ?a ?l ?c ?k; (case a => k_is); (case l => k_is); (case c => k_is); (case k => k_is)
    case d22 => refine' TW.dfn_mk KX G (fun _ _ _ _ _ _ _ us hl => match us, hl with | [_], _ => rfl) ?a ?l ?c ?k; (case a => k_is); (case l => k_is); (case c => k_is); (case k => k_is)
    case d23 => refine' TW.dfn_mk KX G (fun _ _ _ _ _ _ _ us hl => match us, hl with | [_], _ => rfl) ?a ?l ?c ?k; (case a => k_is); (case l => k_is); (case c => k_is); (case k => k_is)
    case d24 => refine' TW.dfn_mk KX G (fun _ _ _ _ _ _ _ us hl => match us, hl with | [_], _ => rfl) ?a ?l ?c ?k; (case a => k_is); (case l => k_is); (case c => k_is); (case k => k_is)
    case d25 => refine' TW.dfn_mk KX G (fun _ _ _ _ _ _ _ us hl => match us, hl with | [_], _ => rfl) ?a ?l ?c ?k; (case a => k_is); (case l => k_is); (case c => k_is); (case k => k_is)
    case d26 => refine' TW.dfn_mk KX G (fun _ _ _ _ _ _ _ us hl => match us, hl with | [_, _], _ => rfl) ?a ?l ?c ?k; (case a => k_is); (case l => k_is); (case c => k_is); (case k => k_is)
    case d27 => refine' TW.dfn_mk KX G (fun _ _ _ _ _ _ _ us hl => match us, hl with | [_, _], _ => rfl) ?a ?l ?c ?k; (case a => k_is); (case l => k_is); (case c => k_is); (case k => k_is)
    case d28 => refine' TW.dfn_mk KX G (fun _ _ _ _ _ _ _ us hl => match us, hl with | [_, _], _ => rfl) ?a ?l ?c ?k; (case a => k_is); (case l => k_is); (case c => k_is); (case k => k_is)
    case d29 => refine' TW.dfn_mk KX G (fun _ _ _ _ _ _ _ us hl => match us, hl with | [_, _], _ => rfl) ?a ?l ?c ?k; (case a => k_is); (case l => k_is); (case c => k_is); (case k => k_is)
    case d30 => refine' TW.dfn_mk KX G (fun _ _ _ _ _ _ _ us hl => match us, hl with | [_, _, _], _ => rfl) ?a ?l ?c ?k; (case a => k_is); (case l => k_is); (case c => k_is); (case k => k_is)
    case d31 => refine' TW.dfn_mk KX G (fun _ _ _ _ _ _ _ us hl => match us, hl with | [_, _], _ => rfl) ?a ?l ?c ?k; (case a => k_is); (case l => k_is); (case c => k_is); (case k => k_is)
    case d32 => refine' TW.dfn_mk KX G (fun _ _ _ _ _ _ _ us hl => match us, hl with | [_], _ => rfl) ?a ?l ?c ?k; (case a => k_is); (case l => k_is); (case c => k_is); (case k => k_is)
    case d33 => refine' TW.dfn_mk KX G (fun _ _ _ _ _ _ _ us hl => match us, hl with | [_], _ => rfl) ?a ?l ?c ?k; (case a => k_is); (case l => k_is); (case c => k_is); (case k => k_is)
    case d34 => refine' TW.dfn_mk KX G (fun _ _ _ _ _ _ _ us hl => match us, hl with | [_, _], _ => rfl) ?a ?l ?c ?k; (case a => k_is); (case l => k_is); (case c => k_is); (case k => k_is)
    case d35 => refine' TW.dfn_mk KX G (fun _ _ _ _ _ _ _ us hl => match us, hl with | [_, _], _ => rfl) ?a ?l ?c ?k; (case a => k_is); (case l => k_is); (case c => k_is); (case k => k_is)
    case d36 => refine' TW.dfn_mk KX G (fun _ _ _ _ _ _ _ us hl => match us, hl with | [_, _], _ => rfl) ?a ?l ?c ?k; (case a => k_is); (case l => k_is); (case c => k_is); (case k => k_is)
    case d37 => refine' TW.dfn_mk KX G (fun _ _ _ _ _ _ _ us hl => match us, hl with | [_, _], _ => rfl) ?a ?l ?c ?k; (case a => k_is); (case l => k_is); (case c => k_is); (case k => k_is)
    case d38 => refine' TW.dfn_mk KX G (fun _ _ _ _ _ _ _ us hl => match us, hl with | [_, _], _ => rfl) ?a ?l ?c ?k; (case a => k_is); (case l => k_is); (case c => k_is); (case k => k_is)
    case d39 => refine' TW.dfn_mk KX G (fun _ _ _ _ _ _ _ us hl => match us, hl with | [_], _ => rfl) ?a ?l ?c ?k; (case a => k_is); (case l => k_is); (case c => k_is); (case k => k_is)
    case d40 => refine' TW.dfn_mk KX G (fun _ _ _ _ _ _ _ us hl => match us, hl with | [_, _], _ => rfl) ?a ?l ?c ?k; (case a => k_is); (case l => k_is); (case c => k_is); (case k => k_is)
    case d41 => refine' TW.dfn_mk KX G (fun _ _ _ _ _ _ _ us hl => match us, hl with | [_, _], _ => rfl) ?a ?l ?c ?k; (case a => k_is); (case l => k_is); (case c => k_is); (case k => k_is)
    case d42 => refine' TW.dfn_mk KX G (fun _ _ _ _ _ _ _ us hl => match us, hl with | [_, _, _], _ => rfl) ?a ?l ?c ?k; (case a => k_is); (case l => k_is); (case c => k_is); (case k => k_is)
    case d43 => refine' TW.dfn_mk KX G (fun _ _ _ _ _ _ _ us hl => match us, hl with | [_, _], _ => rfl) ?a ?l ?c ?k; (case a => k_is); (case l => k_is); (case c => k_is); (case k => k_is)
    case d44 => refine' TW.dfn_mk KX G (fun _ _ _ _ _ _ _ us hl => match us, hl with | [_, _], _ => rfl) ?a ?l ?c ?k; (case a => k_is); (case l => k_is); (case c => k_is); (case k => k_is)
    case d45 => refine' TW.dfn_mk KX G (fun _ _ _ _ _ _ _ us hl => match us, hl with | [_, _], _ => rfl) ?a ?l ?c ?k; (case a => k_is); (case l => k_is); (case c => k_is); (case k => k_is)
    case d46 => refine' TW.dfn_mk KX G (fun _ _ _ _ _ _ _ us hl => match us, hl with | [_], _ => rfl) ?a ?l ?c ?k; (case a => k_is); (case l => k_is); (case c => k_is); (case k => k_is)
    case d47 => refine' TW.dfn_mk KX G (fun _ _ _ _ _ _ _ us hl => match us, hl with | [_, _, _], _ => rfl) ?a ?l ?c ?k; (case a => k_is); (case l => k_is); (case c => k_is); (case k => k_is)
    case d48 => refine' TW.dfn_mk KX G (fun _ _ _ _ _ _ _ us hl => match us, hl with | [_, _], _ => rfl) ?a ?l ?c ?k; (case a => k_is); (case l => k_is); (case c => k_is); (case k => k_is)
    case d49 => refine' TW.dfn_mk KX G (fun _ _ _ _ _ _ _ us hl => match us, hl with | [_, _], _ => rfl) ?a ?l ?c ?k; (case a => k_is); (case l => k_is); (case c => k_is); (case k => k_is)
    case d50 => refine' TW.dfn_mk KX G (fun _ _ _ _ _ _ _ us hl => match us, hl with | [_, _, _, _], _ => rfl) ?a ?l ?c ?k; (case a => k_is); (case l => k_is); (case c => k_is); (case k => k_is)
    case d51 => refine' TW.dfn_mk KX G (fun _ _ _ _ _ _ _ us hl => match us, hl with | [_], _ => rfl) ?a ?l ?c ?k; (case a => k_is); (case l => k_is); (case c => k_is); (case k => k_is)
