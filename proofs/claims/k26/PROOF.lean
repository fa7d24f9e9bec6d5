import PyProof.Rows.All
import Wide.All
import OpenK.AllK
import Wide.FinOn
import HandS.ForMost
import HandS.EndBits
import HandS.Evl
import HandS.Wide
import HandS.IsInst
import HandS.TupAny
import HandS.Zip
import HandS.Walk
import HandS.More
import HandS.Strs
import HandS.SetFor
import HandS.SortInts
import HandS.ExcOwn
import KE.SortData
import HandS.WideBits
import HandS.TupSets
import HandS.IterVal
import HandS.OwnIter
import HandS.Property
import HandS.Codes
import HandS.Deep
import HandS.WordsExc
import HandS.TryOnly
import PyProof.InstSpecial
import PyProof.P3In
import PyProof.TupleOfSeq
import HandS.OwnEq
import KE.KDictWalk
import HandS.Iter
import HandS.Dict
import HandS.Small
import HandS.Flt
import HandS.Conv
import HandS.DictComp
import OpenK.KMeth
import HandS.Style
import KE.KDictZip
import HandS.Sort
import HandS.Rev
import PyProof.CollectIter
import PyProof.ListNew
import PyProof.Rows.NestShow
import KE.KDictSum
import HandS.RevTup
import KE.BitLaws
import HandS.Text
import PySem.Challenge.RW_thingwise_k26_all_least_sides
set_option Elab.async false
set_option linter.all false
set_option maxRecDepth 100000
set_option maxHeartbeats 2000000
namespace TW
open PySem PySem.Spec PyProof.Rows L2
abbrev Ex (H H' : Hp) : Prop := Evl.Ex H H'
theorem Ex.rfl' {H : Hp} : Ex H H := Evl.Ex.refl H
/-! what stands beside H0: the things of l, each apart from the others -/
structure Has (H0 H : Hp) (l : List (Addr × HO)) : Prop where
  ex : Ex H0 H
  own : ∀ q ∈ l, H0 q.1 = none ∧ H q.1 = some q.2
  nd : (l.map (·.1)).Nodup
/-- all but the thing at w stays -/
def But (w : Addr) (H H' : Hp) : Prop := ∀ a o, a ≠ w → H a = some o → H' a = some o
theorem But.ex {w : Addr} {H H' : Hp} (e : Ex H H') : But w H H' := fun a o _ h => e a o h
theorem But.upd {w : Addr} {H : Hp} {o : HO} : But w H (upd H w o) := fun a u n h => by rw [upd_ne n]; exact h
theorem But.trans {w : Addr} {H H1 H2 : Hp} (a : But w H H1) (b : But w H1 H2) : But w H H2 := fun c o n h => b c o n (a c o n h)
theorem But.refl {w : Addr} {H : Hp} : But w H H := fun _ _ _ h => h
theorem But.free {w : Addr} {H H' : Hp} {p : Addr} {o : HO} (b : But w H H') (h : H' p = none) (hw : H' w = some o) : H p = none := by
  cases e : H p with
  | none => rfl
  | some u =>
    have n : p ≠ w := fun z => by rw [z, hw] at h; cases h
    rw [b p u n e] at h
    cases h
section
variable {H0 H H' : Hp} {l : List (Addr × HO)} {p w : Addr} {o o' : HO}
theorem Has.nil : Has H H [] := ⟨Evl.Ex.refl H, fun q h => absurd h List.not_mem_nil, List.Pairwise.nil⟩
theorem Has.get (h : Has H0 H l) (i : Nat) (hi : l[i]? = some (p, o)) : H p = some o := (h.own _ (List.mem_of_getElem? hi)).2
theorem Has.fr (h : Has H0 H l) (i : Nat) (hi : l[i]? = some (p, o)) : H0 p = none := (h.own _ (List.mem_of_getElem? hi)).1
theorem Has.new (h : Has H0 H l) (hp : H p = none) : Has H0 (upd H p o) ((p, o) :: l) := by
  refine ⟨h.ex.trans (Evl.Ex.new hp), fun q hq => ?_, ?_⟩
  · rcases List.mem_cons.mp hq with e | e
    · subst e
      exact ⟨Evl.fresh_back h.ex hp, upd_same⟩
    · obtain ⟨a, b⟩ := h.own q e
      exact ⟨a, by rw [upd_ne (ne_of_none b hp)]; exact b⟩
  · rw [List.map_cons, List.nodup_cons]
    refine ⟨fun z => ?_, h.nd⟩
    obtain ⟨q, hq, e⟩ := List.mem_map.mp z
    have b := (h.own q hq).2
    rw [e, hp] at b
    cases b
theorem Has.go (h : Has H0 H l) (e : Ex H H') : Has H0 H' l := ⟨h.ex.trans e, fun q hq => ⟨(h.own q hq).1, e _ _ (h.own q hq).2⟩, h.nd⟩
/-- a new thing behind an extension -/
theorem Has.newE (h : Has H0 H l) (e : Ex H H') (hp : H p = none) (hv : H' p = some o) : Has H0 H' ((p, o) :: l) := by
  refine ⟨h.ex.trans e, fun q hq => ?_, ?_⟩
  · rcases List.mem_cons.mp hq with z | z
    · subst z
      exact ⟨Evl.fresh_back h.ex hp, hv⟩
    · exact ⟨(h.own q z).1, e _ _ (h.own q z).2⟩
  · rw [List.map_cons, List.nodup_cons]
    refine ⟨fun z => ?_, h.nd⟩
    obtain ⟨q, hq, z2⟩ := List.mem_map.mp z
    have b := (h.own q hq).2
    rw [z2, hp] at b
    cases b
theorem nodup_at {α : Type} : ∀ {l : List α} {i j : Nat} {x : α}, l.Nodup → l[i]? = some x → l[j]? = some x → i = j := by
  intro l i j x nd hi hj
  obtain ⟨hi1, hi2⟩ := List.getElem?_eq_some_iff.mp hi
  obtain ⟨hj1, hj2⟩ := List.getElem?_eq_some_iff.mp hj
  rcases Nat.lt_trichotomy i j with c | c | c
  · exact absurd (hi2.trans hj2.symm) (List.pairwise_iff_getElem.mp nd i j hi1 hj1 c)
  · exact c
  · exact absurd (hj2.trans hi2.symm) (List.pairwise_iff_getElem.mp nd j i hj1 hi1 c)
/-- the i-th thing changes, all else stays -/
theorem Has.setB (h : Has H0 H l) (i : Nat) (hi : l[i]? = some (w, o)) (b : But w H H') (hv : H' w = some o') : Has H0 H' (l.set i (w, o')) := by
  have em : (l.set i (w, o')).map (·.1) = l.map (·.1) := by
    rw [List.map_set]
    refine List.ext_getElem? fun j => ?_
    by_cases e : i = j
    · subst e
      obtain ⟨h1, h2⟩ := List.getElem?_eq_some_iff.mp hi
      rw [List.getElem?_set_self (by rw [List.length_map]; exact h1), List.getElem?_map, hi]
      rfl
    · rw [List.getElem?_set_ne e]
  have nw : H0 w = none := h.fr i hi
  refine ⟨fun a u e => b a u (ne_of_none e nw) (h.ex a u e), fun q hq => ?_, by rw [em]; exact h.nd⟩
  obtain ⟨j, hj⟩ := List.mem_iff_getElem?.mp hq
  by_cases e : i = j
  · subst e
    obtain ⟨h1, _⟩ := List.getElem?_eq_some_iff.mp hi
    rw [List.getElem?_set_self h1] at hj
    cases hj
    exact ⟨nw, hv⟩
  · rw [List.getElem?_set_ne e] at hj
    obtain ⟨a, c⟩ := h.own q (List.mem_of_getElem? hj)
    refine ⟨a, b _ _ (fun z => e ?_) c⟩
    refine nodup_at h.nd (x := w) ?_ ?_
    · rw [List.getElem?_map, hi]
      rfl
    · rw [List.getElem?_map, hj, ← z]
      rfl
theorem Has.set (h : Has H0 H l) (i : Nat) (hi : l[i]? = some (w, o)) : Has H0 (upd H w o') (l.set i (w, o')) := h.setB i hi But.upd upd_same
theorem Has.sub {l' : List (Addr × HO)} (h : Has H0 H l) (s : l'.Sublist l) : Has H0 H l' := ⟨h.ex, fun q hq => h.own q (s.subset hq), (s.map _).nodup h.nd⟩
theorem Has.tail {q : Addr × HO} (h : Has H0 H (q :: l)) : Has H0 H l := h.sub (List.sublist_cons_self _ _)
/-- a new thing behind a step that changes w -/
theorem Has.newB (h : Has H0 H l) (i : Nat) (hi : l[i]? = some (w, o)) (hp : H p = none) (hv : H' p = some o') : p ≠ w := fun z => by
  have a := h.get i hi
  rw [← z, hp] at a
  cases a
/-- adding a thing that H0 does not know and that stands apart -/
theorem Has.add (h : Has H0 H l) (hp : H0 p = none) (hv : H p = some o) (na : p ∉ l.map (·.1)) : Has H0 H ((p, o) :: l) := by
  refine ⟨h.ex, fun q hq => ?_, List.nodup_cons.mpr ⟨na, h.nd⟩⟩
  rcases List.mem_cons.mp hq with z | z
  · subst z
    exact ⟨hp, hv⟩
  · exact h.own q z
theorem Has.notin (h : Has H0 H l) (hp : H p = none) : p ∉ l.map (·.1) := fun z => by
  obtain ⟨q, hq, z2⟩ := List.mem_map.mp z
  have b := (h.own q hq).2
  rw [z2, hp] at b
  cases b
end
/-! defs by their names -/
def Dfn (K : PySem.W.Frag) (mg : Str → Option Value) (x : Str) (st : Stmt) (ps : List Str) : Prop := ∃ (f : Addr) (fd : FuncData), Fun K x x st f fd ∧ mg x = some (.ref f) ∧ Binds K fd ps []
def Ok (P : Program) (w : World) (K : PySem.W.Frag) (mg : Str → Option Value) (base : Heap) (k : Nat) (x : Str) (ps : List Str) (sp : Sp) : Prop :=
  ∃ (f : Addr) (fd : FuncData), FnOk P w K mg base CX0 k f fd ps sp ∧ mg x = some (.ref f) ∧ PySem.W.keepIn K (.ref f) = true ∧ Binds K fd ps []
theorem Dfn.ok {P : Program} {w : World} {K : PySem.W.Frag} {mg : Str → Option Value} {base : Heap} {k : Nat} {x : Str} {st : Stmt} {ps : List Str} {sp : Sp} (D : Dfn K mg x st ps)
    (h : ∀ f fd, Fun K x x st f fd → FnOk P w K mg base CX0 k f fd ps sp) : Ok P w K mg base k x ps sp := by
  obtain ⟨f, fd, F, g, b⟩ := D
  exact ⟨f, fd, h f fd F, g, F.kp, b⟩
theorem pe_o {X : Cx} {k : Nat} {x : Str} {ps : List Str} {sp : Sp} {e : Expr} {es : List Expr} {t : TA} {p pos : Pos} (O : Ok X.prog X.w X.K X.mg X.base k x ps sp) (hr : Room k X.A) (ha : PA X (e :: es) t) (hg : Gl X x := by rfl)
    (hdb : (x == ("__debug__" : Str)) = false := by decide) (he : starEach (e :: es) X.env = (false, eval e X.env) :: starEach es X.env := by rfl) (hpl : (backTo pos (starEach es X.env)).any (·.1) = false := by rfl) :
    PE X (.Call (.Name x p) (e :: es) [] pos) (tCall sp [] E0 t) := by
  obtain ⟨f, fd, F, g, kp, b⟩ := O
  exact pe_call F hr hg g kp b .nil pass0 ha hdb he hpl
theorem dfn_mk {K : PySem.W.Frag} {mg : Str → Option Value} {h : Heap} {x : Str} {st : Stmt} {ps : List Str} {f : Addr} {oc : Value} {od an : Option Addr} {osl : Array (Option Value)} {kV doc pm cdv ct : Value}
    (X : K.In h) (G : h.Ns mainGlobals mg) (hb : ∀ (kV doc pm : Value) (an : Option Addr) (f' cdv ct : Value) (us : List Value), us.length = ps.length → bindArgs (PySem.W.fnOf x x (defArgs st) (defBody st) (defScope st) .none kV doc pm an cdv ct) ⟨us, []⟩ = pure (ps.zip us))
    (a : PySem.W.nsIn K mainGlobals x = some (some (.ref f))) (l : K.lookup f = some ⟨oc, od, .func (PySem.W.fnOf x x (defArgs st) (defBody st) (defScope st) .none kV doc pm an cdv ct), osl⟩)
    (c : PySem.W.codeIn K cdv x = true) (k : PySem.W.keepIn K (.ref f) = true) : Dfn K mg x st ps := by
  have F := fun_mk (st := st) l c k
  exact ⟨f, _, F, PySem.W.mg_of X G a, F.binds fun kV doc pm an cdv ct us hl => hb kV doc pm an .none cdv ct us hl⟩

theorem walk_zipT {K : PySem.W.Frag} {a b : Addr} {xs ys : List V} {n : Nat} (hn : n = min xs.length ys.length) : Walk (RZ.ItzT K a b) n (fun H => SqT K H a xs ∧ SqT K H b ys)
    (fun i H v H' => ∃ T x y, v = .ref T ∧ H T = none ∧ H' = upd H T (.tup [x, y]) ∧ xs[i]? = some x ∧ ys[i]? = some y) := by
  subst hn
  refine ⟨fun i H hi q => ?_, fun H q => ⟨xs, ys, q.1, q.2, by omega⟩, fun i H v H' hi q y => ?_⟩
  · have h1 : i < xs.length := by omega
    have h2 : i < ys.length := by omega
    exact ⟨xs, ys, xs[i], ys[i], q.1, q.2, List.getElem?_eq_getElem h1, List.getElem?_eq_getElem h2⟩
  · obtain ⟨T, x, z, rfl, hT, rfl, f1, f2⟩ := y
    exact ⟨T, x, z, rfl, hT, rfl, f1 xs q.1, f2 ys q.2⟩
theorem take_snoc {α : Type} {l : List α} {i : Nat} {x : α} (h : l[i]? = some x) : l.take (i + 1) = l.take i ++ [x] := by
  rw [List.take_add_one, h]
  rfl
theorem sz {n : Nat} (h : n ≤ 100000) : n ≤ sizeLine := Evl.sz_of h
theorem szl {n : Nat} (h : n < 100000) : n < sizeLine := Evl.sz_lt h
end TW
set_option Elab.async false
set_option linter.all false
set_option maxRecDepth 100000
set_option maxHeartbeats 4000000
namespace TW
open PySem PySem.Spec PyProof.Rows L2
/-- an empty set as it is made -/
abbrev fresh0 (w : World) : Obj := { cls := .type "set", dict := none, data := .set #[] 0 (.fresh 0 0 (!w.params.followText "set-order")) }
section
variable {P : Program} {w : World} {A : Around} {E : Value → Shared → Prop} {s : Shared}
theorem set_of_ints {l : Addr} {its : Array Value} (ns : List Int) {Q : Value → Shared → Prop} (noh : A.handled = none) (il : s.heap.IsList l its) (ii : IntsAre its.toList ns) (few : ns.length + 1 < scanBound)
    (go : ∀ (g : Heap) (tk c : Nat), SetR w g s.heap.objs.size (fun j => decide (j ∈ ns)) c → c ≤ ns.length → (∀ b o, s.heap.get? b = some o → g.get? b = some o) → Q (.ref s.heap.objs.size) { s with heap := g, toks := tk }) :
    wpAny (model P w) A (call (.type "set") [.ref l]) Q E s := by
  have size_eq : its.size = ns.length := by simpa using ii.length
  have C := F.called_set
  obtain ⟨c, tl, mro⟩ := C.mro
  have made_ := C.made
  have sub_ := C.sub
  have nt := C.notType
  have cc := C.canCreate
  have tc1 := F.typeCall_set_1 (.ref l)
  refine wpAny_call (codeAny_of_tree ?_)
  change wpAny _ _ (callAny (Value.type "set") ⟨[.ref l], []⟩) _ _ _
  refine wpAny_pure ⟨Code.quiet_builtin _ (by decide +kernel), codeAny_builtin F.entry_type_call ?_⟩
  rw [Around.under_plain (weight_type_call_type "set" _ _) rfl]
  repeat (any_goals (first | assumption | wp_step))
  refine codeAny_mono (code_set_led1 (.ref l) (E := E) (Q₁ := fun ob t => ob = .ref s.heap.objs.size ∧ t = { s with heap := s.heap.push (fresh0 w) }) ⟨rfl, rfl⟩) fun r t hr => ?_
  match r, hr with
  | .error e, hr => exact hr
  | .ok (.ret ob), hr =>
    obtain ⟨rfl, rfl⟩ := hr
    have at0 : (s.heap.push (fresh0 w)).get? s.heap.objs.size = some (fresh0 w) := Heap.get?_push_size _ rfl
    have ty0 : Shared.TypeIs { s with heap := s.heap.push (fresh0 w) } (.ref s.heap.objs.size) "set" := ⟨_, at0, rfl⟩
    have look_ := C.init.lookup
    have bind_ := C.init.bind (.ref s.heap.objs.size)
    repeat (any_goals (first | assumption | wp_step))
    refine codeAny_mono (codeAny_call_builtin (R := wants (fun r t => r = .none ∧ ∃ g tk c, t = { s with heap := g, toks := tk } ∧ SetR w g s.heap.objs.size (fun j => decide (j ∈ ns)) c ∧ c ≤ ns.length ∧ (∀ b o, s.heap.get? b = some o → g.get? b = some o)) E) C.init.plain F.entry_set_init (check_set_init_1 ty0 ?_)) fun r2 t2 hr2 => ?_
    · obtain ⟨⟨lc, ld, ldat, lsl⟩, lat, e1, nl, e2⟩ := il
      simp only at e1 e2
      subst e1
      subst e2
      have lat1 : (s.heap.push (fresh0 w)).get? l = some { cls := .type "list", dict := ld, data := .seq its nl, slots := lsl } := Heap.get?_push_of_some _ lat
      have k1 := F.sub_list_set
      have k2 := F.sub_list_frozenset
      have k3 : (Value.type "list" == Value.type "dict") = false := by decide
      have il1 : (s.heap.push (fresh0 w)).IsList l its := ⟨_, lat1, rfl, nl, rfl⟩
      unfold Builtin.«set.__init__» noKeywords Builtin.Frozenset.updateFrom
      generalize ePI : pyIter = PI
      wp_walk
      subst ePI
      refine wpAny_pyIter_list il1 (wpAny_bind (wpAny_runValue ?_))
      have ll := Heap.lt_size lat
      have sz1 : (s.heap.push (fresh0 w)).objs.size = s.heap.objs.size + 1 := Heap.size_push ..
      have noh3 : A.in1.in1.in1.handled = none := by simp [noh]
      have nI : l ≠ (s.heap.push (fresh0 w)).objs.size := sz1 ▸ Nat.ne_of_lt (Nat.lt_succ_of_lt ll)
      have nS : s.heap.objs.size ∉ [(s.heap.push (fresh0 w)).objs.size, l] := by
        simp only [List.mem_cons, List.not_mem_nil, or_false, not_or]
        exact ⟨sz1 ▸ Nat.ne_of_lt (Nat.lt_succ_self _), Nat.ne_of_gt ll⟩
      have vals_ : ∀ (i : Nat) (v : Value), its[i]? = some v → ∃ k t, ns[i]? = some k ∧ v = .int k t := fun i v hv => by
        have hi : i < ns.length := size_eq ▸ (Array.getElem?_eq_some_iff.mp hv).1
        obtain ⟨t, e⟩ := PyProof.Rows.IntsAre.int_at ii i v (by simpa using hv)
        refine ⟨ns[i], t, List.getElem?_eq_getElem hi, ?_⟩
        rw [e]
        simp [List.getD_eq_getElem?_getD, hi]
      refine set_update_ints ((Walks.list noh3 _ l nI its).toS) s.heap.objs.size nS ns size_eq few vals_ (its.size - 0) 0 _ (by omega) (Nat.zero_le _) ⟨⟨_, Heap.get?_push_size _ rfl, rfl, rfl⟩, il1.push _⟩ ⟨0, Nat.le_refl 0, setR_new_at (Heap.get?_push_of_some _ at0)⟩ ?_
      rintro ⟨g, g2, d2, tk, os2⟩ c2 mv c2l R2
      have z1 : g2 = s.gens := mv.gens
      have z2 : d2 = s.drawn := mv.drawn
      have z3 : os2 = s.os := mv.os
      subst z1 z2 z3
      show wpAny _ _ _ _ _ _
      refine wpAny_pure ?_
      show wpAny _ _ (ret Value.none) _ _ _
      refine wpAny_pure ⟨rfl, g, tk, c2, rfl, R2, by omega, fun b o e => ?_⟩
      have bl := Heap.lt_size e
      refine mv.heap b o ?_ (Heap.get?_push_of_some _ (Heap.get?_push_of_some _ e))
      simp only [List.mem_cons, List.not_mem_nil, or_false, not_or]
      exact ⟨Nat.ne_of_lt bl, sz1 ▸ Nat.ne_of_lt (Nat.lt_succ_of_lt bl)⟩
    · match r2, hr2 with
      | .error e, hr2 => exact hr2
      | .ok (.ret r3), hr2 =>
        obtain ⟨rfl, g, tk, c2, rfl, R2, c2l, kp⟩ := hr2
        repeat (any_goals (first | assumption | wp_step))
        exact go _ _ _ R2 c2l kp
      | .ok .next, hr2 => exact hr2.elim
      | .ok .brk, hr2 => exact hr2.elim
      | .ok .cont, hr2 => exact hr2.elim
  | .ok .next, hr => exact hr.elim
  | .ok .brk, hr => exact hr.elim
  | .ok .cont, hr => exact hr.elim
end
section
variable {X : Cx}
/-- set(xs), xs a list of ints -/
def rSetI (K : PySem.W.Frag) (w : World) : List V → Hp → VK → Prop := fun xs H Q => ∃ (l : Addr) (ns : List Int), xs = [V.ref l] ∧ SqL K H l (ns.map V.int) ∧ ns.length ≤ 4000 ∧
  ∀ a c, H a = none → c ≤ ns.length → Q (.ref a) (upd H a (SetO w a (fun j => decide (j ∈ ns)) c))
theorem cr_setI (hc : X.calm = true) : CallR X (.type "set") (rSetI X.K X.w) := by
  intro pins s σ H xs us Q I r h
  obtain ⟨l, ns, rfl, hl, hf, q⟩ := h
  rw [Vals.ref1 r]
  obtain ⟨its, rv, pl, hz⟩ := I.list hl
  have hn : H s.heap.objs.size = none := I.hok.fresh (Nat.le_refl _)
  refine set_of_ints (P := X.prog) (w := X.w) ns (I.ok.hd hc) pl.isList (by simpa using RZ.intsAre_vals rv) (by unfold scanBound; omega) fun g tk c R hcl k => ?_
  exact ⟨.ref s.heap.objs.size, upd H s.heap.objs.size (SetO X.w s.heap.objs.size (fun j => decide (j ∈ ns)) c), I.laid (t' := tk) k (Nat.le_refl _) (setO_new R), rfl, q _ c hn hcl⟩
end
end TW
set_option Elab.async false
set_option linter.all false
set_option maxRecDepth 100000
namespace TW
open PySem PySem.Spec PyProof.Rows L2
section
variable {X : Cx} {K : PySem.W.Frag}
def rIxA (K : PySem.W.Frag) : R2 := fun x y H Q => rIxL K x y H Q ∨ rIxT K x y H Q
theorem ix_any (h : X.K = K := by rfl) : IxR X (rIxA K) := by
  subst h
  exact IxR.or ix_list ix_tup
theorem op_inK (h : X.K = K := by rfl) : OpR X (compareOp .In) (rIn K false) := by
  subst h
  exact op_in_seq
theorem op_notInK (h : X.K = K := by rfl) : OpR X (compareOp .NotIn) (rIn K true) := by
  subst h
  exact op_notIn_seq
def rTupOf (K : PySem.W.Frag) : List V → Hp → VK → Prop := fun xs H Q => ∃ p ys, xs = [.ref p] ∧ ((SqL K H p ys ∧ ∀ l, H l = none → Q (.ref l) (upd H l (.tup ys))) ∨ (SqT K H p ys ∧ Q (.ref p) H))
theorem call_tupleK (h : X.K = K := by rfl) : CallR X (.type "tuple") (rTupOf K) := by
  subst h
  exact call_tuple_of
def rLenOf (K : PySem.W.Frag) : List V → Hp → VK → Prop := fun xs H Q => ∃ p ys, xs = [.ref p] ∧ (SqL K H p ys ∨ SqT K H p ys) ∧ Q (.int ys.length) H
theorem call_lenK (h : X.K = K := by rfl) : CallR X (.builtin "len") (rLenOf K) := by
  subst h
  exact call_len_seq
def rListOf (K : PySem.W.Frag) : List V → Hp → VK → Prop := fun xs H Q => ∃ p ys, xs = [.ref p] ∧ (SqL K H p ys ∨ SqT K H p ys) ∧ ∀ l, H l = none → Q (.ref l) (upd H l (.lst ys))
theorem call_listK (h : X.K = K := by rfl) : CallR X (.type "list") (rListOf K) := by
  subst h
  exact call_list_of
theorem cr_allK (hc : X.calm = true) (h : X.K = K := by rfl) : CallR X (.builtin "all") (rAll K) := by
  subst h
  exact cr_all hc
theorem cr_setK {w : World} (hc : X.calm = true) (h : X.K = K := by rfl) (hw : X.w = w := by rfl) : CallR X (.type "set") (rSetI K w) := by
  subst h
  subst hw
  exact cr_setI hc
theorem cr_sortedSetK {w : World} (hc : X.calm = true) (hw : X.w = w := by rfl) : CallR X (.builtin "sorted") (rSortedSet w) := by
  subst hw
  exact cr_sortedSet hc
theorem cr_anyK (hc : X.calm = true) (h : X.K = K := by rfl) : CallR X (.builtin "any") (rAny K) := by
  subst h
  exact cr_any hc
end
end TW
set_option maxRecDepth 100000
namespace TW
open PySem PySem.Spec PyProof.Rows L2
def topS (i : Nat) : Stmt := PySem.Challenge.pw_thingwise_k26_all_least_sides.main.body.getD i (.Pass ⟨0, 0, 0, 0⟩)
abbrev s_is_integer : Stmt := topS 7
abbrev s_is_thing : Stmt := topS 8
abbrev s_is_ascending : Stmt := topS 9
abbrev s_is_lot : Stmt := topS 10
abbrev s_is_place : Stmt := topS 11
abbrev s_is_told_tie : Stmt := topS 12
abbrev s_is_side : Stmt := topS 13
abbrev s_check_places : Stmt := topS 14
abbrev s_check_side : Stmt := topS 15
abbrev s_check_never : Stmt := topS 16
abbrev s_Web_init : Stmt := inClass (topS 18) 0
abbrev s_Web_places : Stmt := inClass (topS 18) 1
abbrev s_Web_ties : Stmt := inClass (topS 18) 2
abbrev s_Web_len : Stmt := inClass (topS 18) 3
abbrev s_Web_iter : Stmt := inClass (topS 18) 4
abbrev s_Web_eq : Stmt := inClass (topS 18) 5
abbrev s_Web_add : Stmt := inClass (topS 18) 6
abbrev s__joined_ties : Stmt := topS 19
abbrev s_check_web : Stmt := topS 20
abbrev s_ends_of : Stmt := topS 21
abbrev s_cut_of : Stmt := topS 22
abbrev s__cut : Stmt := topS 23
abbrev s_rooms_of : Stmt := topS 24
abbrev s_ways_from : Stmt := topS 25
abbrev s_least_sides : Stmt := topS 27
abbrev s__check_between : Stmt := topS 28
abbrev s__rooms_left : Stmt := topS 29
abbrev s__shortest_row : Stmt := topS 30
abbrev s__outermost_sides : Stmt := topS 31
abbrev s_side_with : Stmt := topS 32
abbrev s__between : Stmt := topS 33
abbrev s__law_new_jar : Stmt := topS 35
abbrev s__law_take : Stmt := topS 36
abbrev s__law_row_of : Stmt := topS 37
abbrev s__law_mask_of : Stmt := topS 38
abbrev s__law_has : Stmt := topS 39
abbrev s__law_weigh : Stmt := topS 40
abbrev s__law_is_tied : Stmt := topS 41
abbrev s__law_draw_ropes : Stmt := topS 42
abbrev s__law_some_rows : Stmt := topS 43
abbrev s__law_cut : Stmt := topS 44
abbrev s__law_sums : Stmt := topS 45
abbrev s__law_lows : Stmt := topS 46
abbrev s__law_draw_pins : Stmt := topS 47
abbrev s__law_due_sides : Stmt := topS 48
abbrev s__law_is_as_told : Stmt := topS 49
abbrev s_law : Stmt := topS 50
end TW
set_option Elab.async false
set_option linter.all false
set_option maxRecDepth 100000
set_option maxHeartbeats 4000000
namespace TW
open PySem PySem.Spec PyProof.Rows L2
structure Z (mg : Str → Option Value) : Prop where
  len : mg "len" = none
  int : mg "int" = none
  all : mg "all" = none
  sorted : mg "sorted" = none
  tuple : mg "tuple" = none
  list : mg "list" = none
  set : mg "set" = none
  type : mg "type" = none
  isinstance : mg "isinstance" = none
  zip : mg "zip" = none
  range : mg "range" = none
  bool : mg "bool" = none
  any : mg "any" = none
  iter : mg "iter" = none
  property : mg "property" = none
section
variable {P : Program} {w : World} {K : PySem.W.Frag} {mg : Str → Option Value} {base : Heap}
theorem pe_tyn {X : Cx} {n : String} {p : Pos} (hg : Gl X (Str.ofString n)) (hm : X.mg (Str.ofString n) = none) (hv : bootBuiltins (Str.ofString n) = some (.type n)) (hn : Str.ofString n ≠ "__name__" := by decide) (hd : (Str.ofString n == ("__debug__" : Str)) = false := by decide) : PE X (.Name (Str.ofString n) p) (tC (.ty n)) := pe_bltn hg hm hv rfl hn hd
/-! is_integer, of ints -/
theorem sc_is_integer : FnScope ["value", "least"] ["value", "least"] (defScope s_is_integer) := ⟨rfl, rfl, rfl, by decide +kernel, rfl, by decide +kernel, by decide +kernel⟩
def spIsInt : Sp := fun vs H Q _ => ∃ i l : Int, vs = [.int i, .int l] ∧ Q (.bl (decide (l ≤ i))) H
theorem ok_is_integer (D : Dfn K mg "is_integer" s_is_integer ["value", "least"]) (z : Z mg) : Ok P w K mg base 1 "is_integer" ["value", "least"] spIsInt := D.ok fun f fd F => by
  refine F.ok sc_is_integer (fun vs H Q E h => ?_) (fun cdv A outer s H vs Q E hr h => ?_)
  · obtain ⟨i, l, rfl, _⟩ := h
    rfl
  · obtain ⟨i, l, rfl, q⟩ := h
    refine ⟨_, (pss_one (ps_ret (pe_and (pe_cmpR op_isTy (pe_callTy call_type1 (by rfl) z.type (by decide +kernel) (pa_cons (pv 0) pa_nil)) (pe_tyn (n := "int") (by rfl) z.int (by decide +kernel)) (nomark _)) (pe_one (pe_cmpR op_ge (pv 0) (pv 1) (nomark _)))))), ?_⟩
    exact ⟨_, rfl, _, _, rfl, .int i, _, _, rfl, rfl, _, rfl, _, rfl, _, rfl, _, _, rfl, rfl, q⟩

/-! is_thing -/
def thV : Option Int → V
  | none => .non
  | some n => .int n
def inThings (i : Int) : Option Int → Bool
  | none => true
  | some n => decide (i < n)
theorem sc_is_thing : FnScope ["value", "things"] ["value", "things"] (defScope s_is_thing) := ⟨rfl, rfl, rfl, by decide +kernel, rfl, by decide +kernel, by decide +kernel⟩
def spIsThing : Sp := fun vs H Q _ => ∃ (i : Int) (t : Option Int), vs = [.int i, thV t] ∧ Q (.bl (decide (0 ≤ i) && inThings i t)) H
theorem ok_is_thing (D : Dfn K mg "is_thing" s_is_thing ["value", "things"]) (O_is_integer : Ok P w K mg base 1 "is_integer" ["value", "least"] spIsInt) : Ok P w K mg base 2 "is_thing" ["value", "things"] spIsThing := D.ok fun f fd F => by
  refine F.ok sc_is_thing (fun vs H Q E h => ?_) (fun cdv A outer s H vs Q E hr h => ?_)
  · obtain ⟨i, t, rfl, _⟩ := h
    rfl
  · obtain ⟨i, t, rfl, q⟩ := h
    refine ⟨_, (pss_one (ps_ret (pe_and (pe_o O_is_integer hr (pa_cons (pv 0) (pa_cons pe_int pa_nil))) (pe_one (pe_or (pe_cmpR op_isN (pv 1) pe_non (nomark _)) (pe_one (pe_cmpR op_lt (pv 0) (pv 1) (nomark _)))))))), ?_⟩
    refine ⟨_, rfl, _, _, rfl, _, rfl, ?_⟩
    cases h0 : decide (0 ≤ i) with
    | false =>
      rw [h0] at q
      exact q
    | true =>
      rw [h0] at q
      cases t with
      | none => exact ⟨_, rfl, rfl, _, rfl, q⟩
      | some n => exact ⟨_, rfl, rfl, _, rfl, _, rfl, _, rfl, _, _, rfl, rfl, q⟩
/-! is_ascending, of a tuple of ints -/
def adj (ns : List Int) : List Bool := List.zipWith (fun x y => decide (x < y)) ns (ns.drop 1)
theorem adj_len (ns : List Int) : (adj ns).length = min (ns.map V.int).length ((ns.drop 1).map V.int).length := by
  unfold adj
  rw [List.length_zipWith, List.length_map, List.length_map]
theorem adj_get {ns : List Int} {i : Nat} {x y : V} (h1 : (ns.map V.int)[i]? = some x) (h2 : ((ns.drop 1).map V.int)[i]? = some y) : ∃ p q, x = .int p ∧ y = .int q ∧ (adj ns)[i]? = some (decide (p < q)) := by
  rw [List.getElem?_map] at h1 h2
  cases e1 : ns[i]? with
  | none => rw [e1] at h1; cases h1
  | some p =>
    cases e2 : (ns.drop 1)[i]? with
    | none => rw [e2] at h2; cases h2
    | some q =>
      rw [e1] at h1
      rw [e2] at h2
      refine ⟨p, q, (Option.some.inj h1).symm, (Option.some.inj h2).symm, ?_⟩
      unfold adj
      rw [List.getElem?_zipWith, e1, e2]
def asc : List Int → Bool
  | x :: y :: r => decide (x < y) && asc (y :: r)
  | _ => true
theorem adj_asc : ∀ ns : List Int, (adj ns).all id = asc ns
  | [] => rfl
  | [_] => rfl
  | x :: y :: r => by
    have ih := adj_asc (y :: r)
    show (decide (x < y) && (adj (y :: r)).all id) = (decide (x < y) && asc (y :: r))
    rw [ih]
theorem sc_is_ascending : FnScope ["values", "low", "high"] ["values"] (defScope s_is_ascending) := ⟨rfl, rfl, rfl, by decide +kernel, rfl, by decide +kernel, by decide +kernel⟩
def spIsAsc (K : PySem.W.Frag) : Sp := fun vs H Q _ => ∃ (t : Addr) (ns : List Int), vs = [.ref t] ∧ SqT K H t (ns.map V.int) ∧ ns.length ≤ 1000 ∧ ∀ H', Ex H H' → Q (.bl (asc ns)) H'
theorem ok_is_ascending (D : Dfn K mg "is_ascending" s_is_ascending ["values"]) (z : Z mg) : Ok P w K mg base 1 "is_ascending" ["values"] (spIsAsc K) := D.ok fun f fd F => by
  refine F.ok sc_is_ascending (fun vs H Q E h => ?_) (fun cdv A outer s H vs Q E hr h => ?_)
  · obtain ⟨i, t, rfl, _⟩ := h
    rfl
  · obtain ⟨t, ns, rfl, hT, hl, q⟩ := h
    refine ⟨_, (pss_one (ps_ret (pe_callB (cr_all rfl) (by rfl) z.all (by decide +kernel) (pa_cons (pe_lc (own := [("low", 1), ("high", 2)]) (g := gTup K 2 (gCons (gName 1) (gCons (gName 2) gNil))) rfl sc_is_ascending.nd (RZ.pi_zipA (by rfl) z.zip (pa_cons (pv 0) (pa_cons (pe_slice sl_tupA (pv 0) (po_some pe_int) po_none) pa_nil))) (blkOk_by (N := ["values", "low", "high"]) (own := [("low", 1), ("high", 2)]) (sc := defScope s_is_ascending) (by decide +kernel)) (fun _ _ _ _ _ => pg_tup rfl (pgs_cons (pg_name (i := 1) sc_is_ascending.nd rfl (Or.inl rfl)) (pgs_cons (pg_name (i := 2) sc_is_ascending.nd rfl (Or.inl rfl)) (pgs_nil)))) (fun _ _ _ _ _ => pts_nil) (fun _ _ _ _ _ => (pe_cmpR op_lt (pv 1) (pv 2) (nomark _)))) pa_nil)))), ?_⟩
    refine ⟨_, rfl, _, rfl, _, rfl, t, ns.map V.int, rfl, hT, ?_⟩
    have key : ∀ (t' : Addr) (H1 : Hp), Ex H H1 → SqT K H1 t' ((ns.drop 1).map V.int) → ∀ (R : V → Hp → Prop), (∀ Dl H2, H1 Dl = none → Ex H1 H2 → H2 Dl = some (.lst ((adj ns).map V.bl)) → R (.ref Dl) H2) → ∀ Dl, H1 Dl = none → ∃ W : Nat → Nat → Hp → Prop, (∃ m, W 0 m (upd H1 Dl (.lst []))) ∧ ∀ i m H, W i m H →
      ((RZ.ItzT K t t').stop i H ∧ R (.ref Dl) H) ∨ ((RZ.ItzT K t t').go i H ∧ ∃ Nx : Hp → Prop, (∀ H', Nx H' → ∃ m', m' < m ∧ W (i + 1) m' H') ∧ ∀ x H', (RZ.ItzT K t t').yld i H x H' → gTup K 2 (gCons (gName 1) (gCons (gName 2) gNil)) x (wipe (L2.start ["values", "low", "high"] [V.ref t]) [1, 2]) H' fun σ2 H2 => wipe σ2 [1, 2] = wipe (L2.start ["values", "low", "high"] [V.ref t]) [1, 2] ∧ tYes σ2 H2 fun b H3 =>
        if b = true then tOp (rI0 fun i j => .bl (decide (i < j))) (tVar 1) (tVar 2) σ2 H3 fun y H4 => ∃ acc, H4 Dl = some (.lst acc) ∧ acc.length < sizeLine ∧ Nx (upd H4 Dl (.lst (acc ++ [y]))) else Nx H3) := by
      intro t' H1 e1 hT' R hR Dl hD
      refine lc_it (walk_zipT (adj_len ns)) (Qd := fun H => R (.ref Dl) H) (fun i H' => Ex H1 H' ∧ H' Dl = some (.lst (((adj ns).take i).map V.bl))) ⟨Evl.Ex.new hD, by rw [upd_same]; rfl⟩ (fun i H' _ p => ⟨Evl.ex_t (e1.trans p.1) hT, Evl.ex_t p.1 hT'⟩) ?_ (fun H' p => hR Dl H' hD p.1 (by have := p.2; rw [List.take_length] at this; exact this))
      rintro i x H2 H3 hi ⟨x2, hL⟩ ⟨T, u, v, rfl, nT, rfl, hu, hv⟩
      obtain ⟨p, q2, rfl, rfl, ha⟩ := adj_get hu hv
      refine ⟨T, _, rfl, Evl.st_of upd_same, rfl, _, _, rfl, _, _, rfl, rfl, rfl, ?_⟩
      refine ⟨_, rfl, _, rfl, _, _, rfl, rfl, _, Eq.trans (upd_ne (ne_of_none hL nT)) hL, szl ?_, ?_, ?_⟩
      · rw [List.length_map, List.length_take]
        have := adj_len ns
        rw [List.length_map] at this
        omega
      · exact Evl.Ex.mut (x2.trans (Evl.Ex.new nT)) hD
      · rw [upd_same, take_snoc ha, List.map_append]
        rfl
    have fin : ∀ Dl H2, Ex H H2 → H2 Dl = some (.lst ((adj ns).map V.bl)) → rAll K [.ref Dl] H2 Q := fun Dl H2 e2 h2 => ⟨Dl, adj ns, rfl, Evl.sq_of h2, by
      rw [adj_asc]
      exact q H2 e2⟩
    have i0 : HT.sIx (ns.map V.int).length 0 (some 1) = min 1 (ns.map V.int).length := HT.sIx_nat _ 0 1
    have e1 : cutV (ns.map V.int) (some 1) none = (ns.drop 1).map V.int := by
      unfold cutV
      rw [i0, HT.sIx_none, List.map_drop]
      cases ns with
      | nil => rfl
      | cons x r =>
        rw [show min 1 (List.map V.int (x :: r)).length = 1 by rw [List.map_cons, List.length_cons]; omega]
        rw [← List.length_drop, List.take_length]
    refine ⟨fun hw => ?_, fun hw p hp => ?_⟩
    · refine ⟨t, t, ns.map V.int, ns.map V.int, rfl, .inr ⟨hT, hT, key t H (Evl.Ex.refl H) ?_ (fun v H2 => rAll K [v] H2 Q) fun Dl H2 _ e2 h2 => fin Dl H2 e2 h2⟩⟩
      have n0 : ns = [] := by
        have hw1 := hw.1
        rw [i0, List.length_map] at hw1
        cases ns with
        | nil => rfl
        | cons x r =>
          rw [List.length_cons] at hw1
          omega
      rw [n0] at hT ⊢
      exact hT
    · have hp2 : (upd H p (.tup (cutV (ns.map V.int) (some 1) none))) p = some (.tup ((ns.drop 1).map V.int)) := by rw [upd_same, e1]
      exact ⟨t, p, ns.map V.int, (ns.drop 1).map V.int, rfl, .inr ⟨Evl.ex_t (Evl.Ex.new hp) hT, Evl.st_of hp2, key p _ (Evl.Ex.new hp) (Evl.st_of hp2) (fun v H2 => rAll K [v] H2 Q) fun Dl H2 _ e2 h2 => fin Dl H2 ((Evl.Ex.new hp).trans e2) h2⟩⟩
/-! is_lot, of a tuple of ints -/
def isLot (ns : List Int) (t : Option Int) : Bool := (ns.all fun n => decide (0 ≤ n) && inThings n t) && asc ns
theorem sc_is_lot : FnScope ["value", "things", "thing"] ["value", "things"] (defScope s_is_lot) := ⟨rfl, rfl, rfl, by decide +kernel, rfl, by decide +kernel, by decide +kernel⟩
def spIsLot (K : PySem.W.Frag) : Sp := fun vs H Q _ => ∃ (a : Addr) (ns : List Int) (t : Option Int), vs = [.ref a, thV t] ∧ SqT K H a (ns.map V.int) ∧ ns.length ≤ 1000 ∧ ∀ H', Ex H H' → Q (.bl (isLot ns t)) H'
theorem ok_is_lot (D : Dfn K mg "is_lot" s_is_lot ["value", "things"]) (z : Z mg) (O_is_thing : Ok P w K mg base 2 "is_thing" ["value", "things"] spIsThing) (O_is_ascending : Ok P w K mg base 1 "is_ascending" ["values"] (spIsAsc K)) : Ok P w K mg base 3 "is_lot" ["value", "things"] (spIsLot K) := D.ok fun f fd F => by
  refine F.ok sc_is_lot (fun vs H Q E h => ?_) (fun cdv A outer s H vs Q E hr h => ?_)
  · obtain ⟨a, ns, t, rfl, _⟩ := h
    rfl
  · obtain ⟨a, ns, t, rfl, hT, hl, q⟩ := h
    refine ⟨_, (pss_cons (ps_if (pt_cmpR op_isNotTy (pe_callTy call_type1 (by rfl) z.type (by decide +kernel) (pa_cons (pv 0) pa_nil)) (pe_tyn (n := "tuple") (by rfl) z.tuple (by decide +kernel)) (nomark _)) (pss_one (ps_ret pe_bl)) pss_nil)
      (pss_one (ps_ret (pe_and (pe_callB (cr_all rfl) (by rfl) z.all (by decide +kernel) (pa_cons (pe_lc (own := [("thing", 2)]) (g := gName 2) rfl sc_is_lot.nd (pi_tup (pv 0)) (blkOk_by (N := ["value", "things", "thing"]) (own := [("thing", 2)]) (sc := defScope s_is_lot) (by decide +kernel)) (fun _ _ _ _ _ => pg_name (i := 2) sc_is_lot.nd rfl (Or.inl rfl)) (fun _ _ _ _ _ => pts_nil) (fun _ _ _ _ _ => (pe_o O_is_thing hr (pa_cons (pv 2) (pa_cons (pv 1) pa_nil))))) pa_nil)) (pe_one (pe_o O_is_ascending (hr.mono (by decide)) (pa_cons (pv 0) pa_nil))))))), ?_⟩
    refine ⟨_, rfl, _, _, rfl, .tup hT, _, _, rfl, rfl, _, rfl, ?_⟩
    refine ⟨_, rfl, a, rfl, ⟨_, hT⟩, fun Dl hD => ?_⟩
    refine lc_tup (K := K) (xs := ns.map V.int) (fun i H' => Ex H H' ∧ H' Dl = some (.lst (((ns.map fun n => decide (0 ≤ n) && inThings n t).take i).map V.bl))) ⟨Evl.Ex.new hD, by rw [upd_same]; rfl⟩ (fun i H' _ p => Evl.ex_t p.1 hT) ?_ ?_
    · rintro i x H1 hi ⟨e1, h1⟩
      obtain ⟨n, hn, rfl⟩ : ∃ n, ns[i]? = some n ∧ x = V.int n := by
        rw [List.getElem?_map] at hi
        cases e : ns[i]? with
        | none => rw [e] at hi; cases hi
        | some n => rw [e] at hi; exact ⟨n, rfl, (Option.some.inj hi).symm⟩
      refine ⟨rfl, ?_⟩
      refine ⟨_, rfl, _, rfl, n, t, rfl, _, h1, szl ?_, Evl.Ex.mut e1 hD, ?_⟩
      · rw [List.length_map, List.length_take, List.length_map]
        omega
      · rw [upd_same, take_snoc (x := decide (0 ≤ n) && inThings n t) (by rw [List.getElem?_map, hn]; rfl), List.map_append]
        rfl
    · rintro H1 ⟨e1, h1⟩
      have eL : (ns.map fun n => decide (0 ≤ n) && inThings n t).take (ns.map V.int).length = ns.map fun n => decide (0 ≤ n) && inThings n t := List.take_of_length_le (by simp)
      rw [eL] at h1
      refine ⟨Dl, _, rfl, Evl.sq_of h1, _, rfl, ?_⟩
      rw [List.all_map]
      have ea : (ns.all (id ∘ fun n => decide (0 ≤ n) && inThings n t)) = ns.all fun n => decide (0 ≤ n) && inThings n t := rfl
      rw [ea]
      cases hb : ns.all fun n => decide (0 ≤ n) && inThings n t with
      | false =>
        have ef : isLot ns t = false := by unfold isLot; rw [hb]; rfl
        rw [ef] at q
        exact q H1 e1
      | true =>
        have ef : isLot ns t = asc ns := by unfold isLot; rw [hb]; rfl
        rw [ef] at q
        exact ⟨_, rfl, a, ns, rfl, Evl.ex_t e1 hT, hl, fun H2 e2 => q H2 (e1.trans e2)⟩
end
end TW
set_option Elab.async false
set_option linter.all false
set_option maxRecDepth 100000
set_option maxHeartbeats 4000000
namespace TW
open PySem PySem.Spec PyProof.Rows L2
section
variable {P : Program} {w : World} {K : PySem.W.Frag} {mg : Str → Option Value} {base : Heap}
/-! _law_draws_of -/
def wl (a b c : Int) : HO := .lst [.int a, .int b, .int c]
def spDraws : Sp := fun vs H Q _ => ∃ c : Int, vs = [.int c] ∧ ∀ p, H p = none → ∀ a b : Int, 0 ≤ a → 0 ≤ b → b < 2 ^ 81 → Q (.ref p) (upd H p (wl a 0 b))
def spDip : Sp := fun vs H Q _ => ∃ (p : Addr) (n a b c : Int), vs = [.ref p, .int n] ∧ H p = some (wl a b c) ∧ 0 < n ∧ n < 2 ^ 200 ∧ 0 ≤ a ∧ 0 ≤ b ∧ b < 2 ^ 60 ∧ 0 ≤ c ∧ c < 2 ^ 81 ∧
  ∀ r a' b' : Int, 0 ≤ r → r < n → 0 ≤ a' → b ≤ b' → b' ≤ b + 1 → Q (.int r) (upd H p (wl a' b' c))
theorem nab {x : Int} {k : Nat} (h0 : 0 ≤ x) (h : x < 2 ^ k) : x.natAbs < 2 ^ k := by
  have e : ((2 ^ k : Nat) : Int) = (2 : Int) ^ k := by simp
  omega
end
end TW
set_option Elab.async false
set_option linter.all false
set_option maxRecDepth 100000
set_option maxHeartbeats 4000000
namespace TW
open PySem PySem.Spec PyProof.Rows L2
section
variable {P : Program} {w : World} {K : PySem.W.Frag} {mg : Str → Option Value} {base : Heap}
/-! _law_same, of equal data -/
def isFlat : V → Bool
  | .non => true
  | .bl _ => true
  | .int _ => true
  | .str _ => true
  | _ => false
def Rep : Nat → Hp → V → V → Prop
  | 0, _, x, y => x = y ∧ isFlat x = true
  | n + 1, H, x, y => (x = y ∧ isFlat x = true) ∨ ∃ (a b : Addr) (xs ys : List V), x = .ref a ∧ y = .ref b ∧ ((H a = some (.lst xs) ∧ H b = some (.lst ys)) ∨ (H a = some (.tup xs) ∧ H b = some (.tup ys))) ∧
      xs.length = ys.length ∧ ys.length ≤ 10000 ∧ ∀ (i : Nat) x y, xs[i]? = some x → ys[i]? = some y → Rep n H x y
theorem Rep.mono : ∀ {n : Nat} {H H' : Hp} {x y : V}, Ex H H' → Rep n H x y → Rep n H' x y
  | 0, _, _, _, _, _, h => h
  | n + 1, H, H', x, y, e, h => by
    rcases h with h | ⟨a, b, xs, ys, h1, h2, h3, h4, h5, h6⟩
    · exact .inl h
    · refine .inr ⟨a, b, xs, ys, h1, h2, ?_, h4, h5, fun i x y hx hy => Rep.mono e (h6 i x y hx hy)⟩
      rcases h3 with ⟨p, q⟩ | ⟨p, q⟩
      · exact .inl ⟨e _ _ p, e _ _ q⟩
      · exact .inr ⟨e _ _ p, e _ _ q⟩
theorem Rep.flat {n : Nat} {H : Hp} {x : V} (h : isFlat x = true) : Rep n H x x := by
  cases n with
  | zero => exact ⟨rfl, h⟩
  | succ n => exact .inl ⟨rfl, h⟩
def spSame (n : Nat) : Sp := fun vs H Q _ => ∃ x y : V, vs = [x, y] ∧ Rep n H x y ∧ ∀ H', Ex H H' → Q (.bl true) H'
theorem kit_ll : PySem.W.kitOne K (.type "list") (.type "list") = some true := kit_ty (by decide +kernel)
theorem kit_lt : PySem.W.kitOne K (.type "list") (.type "tuple") = some false := kit_ty (by decide +kernel)
theorem kit_tl : PySem.W.kitOne K (.type "tuple") (.type "list") = some false := kit_ty (by decide +kernel)
theorem kit_tt : PySem.W.kitOne K (.type "tuple") (.type "tuple") = some true := kit_ty (by decide +kernel)
theorem kit_any2 {a : String} {b1 b2 : Bool} (h1 : PySem.W.kitOne K (.type a) (.type "list") = some b1) (h2 : PySem.W.kitOne K (.type a) (.type "tuple") = some b2) : PySem.W.kitAny K (.type a) [.type "list", .type "tuple"] = some (b1 || b2) := by
  unfold PySem.W.kitAny
  rw [h1]
  cases b1 with
  | true => rfl
  | false =>
    unfold PySem.W.kitAny
    rw [h2]
    cases b2 <;> rfl
theorem FnOk.never {CX : CXT} {f : Addr} {fd : FuncData} {ps : List Str} : FnOk P w K mg base CX 0 f fd ps (fun _ _ _ _ => False) := ⟨fun _ _ _ _ h => h.elim, fun _ _ _ _ _ _ _ _ _ _ _ _ _ h => h.elim⟩
end
end TW
set_option Elab.async false
set_option linter.all false
set_option maxRecDepth 100000
set_option maxHeartbeats 4000000
namespace TW
open PySem PySem.Spec PyProof.Rows L2
/-! ascending lists -/
def Up (ns : List Int) : Prop := ns.Pairwise (· < ·)
theorem asc_up : ∀ {ns : List Int}, asc ns = true → Up ns
  | [], _ => List.Pairwise.nil
  | [x], _ => List.pairwise_singleton _ _
  | x :: y :: r, h => by
    have h' : (decide (x < y) && asc (y :: r)) = true := h
    rw [Bool.and_eq_true] at h'
    have ih := asc_up h'.2
    have hxy : x < y := of_decide_eq_true h'.1
    refine List.pairwise_cons.mpr ⟨fun z hz => ?_, ih⟩
    rcases List.mem_cons.mp hz with e | e
    · omega
    · have := (List.pairwise_cons.mp ih).1 z e
      omega
theorem up_asc : ∀ {ns : List Int}, Up ns → asc ns = true
  | [], _ => rfl
  | [x], _ => rfl
  | x :: y :: r, h => by
    obtain ⟨h1, h2⟩ := List.pairwise_cons.mp h
    show (decide (x < y) && asc (y :: r)) = true
    rw [up_asc h2, decide_eq_true (h1 y List.mem_cons_self)]
    rfl
theorem up_nodup {ns : List Int} (h : Up ns) : ns.Nodup := h.imp fun {a b} (c : a < b) => by
  intro e
  omega
theorem up_ext : ∀ {xs ys : List Int}, Up xs → Up ys → (∀ z, z ∈ xs ↔ z ∈ ys) → xs = ys
  | [], [], _, _, _ => rfl
  | [], y :: r, _, _, h => absurd ((h y).mpr List.mem_cons_self) List.not_mem_nil
  | x :: r, [], _, _, h => absurd ((h x).mp List.mem_cons_self) List.not_mem_nil
  | x :: r, y :: s, hx, hy, h => by
    obtain ⟨a1, a2⟩ := List.pairwise_cons.mp hx
    obtain ⟨b1, b2⟩ := List.pairwise_cons.mp hy
    have e : x = y := by
      rcases List.mem_cons.mp ((h x).mp List.mem_cons_self) with q | q
      · exact q
      · rcases List.mem_cons.mp ((h y).mpr List.mem_cons_self) with p | p
        · exact p.symm
        · have c1 := a1 y p
          have c2 := b1 x q
          omega
    subst e
    rw [up_ext a2 b2 fun z => ⟨fun hz => ?_, fun hz => ?_⟩]
    · rcases List.mem_cons.mp ((h z).mp (List.mem_cons_of_mem _ hz)) with q | q
      · have := a1 z hz
        omega
      · exact q
    · rcases List.mem_cons.mp ((h z).mpr (List.mem_cons_of_mem _ hz)) with q | q
      · have := b1 z hz
        omega
      · exact q
theorem up_of_le {ns : List Int} (h : ns.Pairwise (· ≤ ·)) (d : ns.Nodup) : Up ns := by
  refine List.Pairwise.imp₂ (fun a b (x : a ≤ b) (y : a ≠ b) => ?_) h d
  show a < b
  omega
def lotOk (ns : List Int) : Prop := Up ns ∧ (∀ z ∈ ns, 0 ≤ z) ∧ ns.length ≤ 1000
theorem isLot_of {ns : List Int} (h : lotOk ns) : isLot ns none = true := by
  unfold isLot
  rw [up_asc h.1, Bool.and_true, List.all_eq_true]
  intro z hz
  rw [decide_eq_true (h.2.1 z hz)]
  rfl
theorem inV_int (x : Int) (ns : List Int) : inV (.int x) (ns.map V.int) = decide (x ∈ ns) := by
  unfold inV
  rw [List.any_map]
  rw [Bool.eq_iff_iff, List.any_eq_true, decide_eq_true_eq]
  constructor
  · rintro ⟨y, hy, e⟩
    have e' : (y == x) = true := e
    rw [← eq_of_beq e']
    exact hy
  · intro h
    exact ⟨x, h, (show (x == x) = true from beq_self_eq_true x)⟩
theorem flat_ints (ns : List Int) : (ns.map V.int).all flatV = true := by
  rw [List.all_map]
  exact List.all_eq_true.mpr fun _ _ => rfl
theorem map_get {ns : List Int} {i : Nat} {x : V} (hi : (ns.map V.int)[i]? = some x) : ∃ n, ns[i]? = some n ∧ x = V.int n := by
  rw [List.getElem?_map] at hi
  cases e : ns[i]? with
  | none => rw [e] at hi; cases hi
  | some n => rw [e] at hi; exact ⟨n, rfl, (Option.some.inj hi).symm⟩
/-- the things that two of three lots have -/
def IsMid (a b c m : List Int) : Prop := Up m ∧ ∀ x, x ∈ m ↔ (x ∈ a ∧ (x ∈ b ∨ x ∈ c)) ∨ (x ∈ b ∧ x ∈ c)
theorem mid_of {a b c r : List Int} (ua : Up a) (ub : Up b) (hp : r.Perm (a.filter (fun x => decide (x ∈ b) || decide (x ∈ c)) ++ b.filter (fun x => decide (x ∈ c) && !decide (x ∈ a)))) (hs : r.Pairwise (· ≤ ·)) : IsMid a b c r := by
  have nd : (a.filter (fun x => decide (x ∈ b) || decide (x ∈ c)) ++ b.filter (fun x => decide (x ∈ c) && !decide (x ∈ a))).Nodup := by
    refine List.nodup_append.mpr ⟨(up_nodup ua).filter _, (up_nodup ub).filter _, fun x hx y hy e => ?_⟩
    subst e
    have h1 := (List.mem_filter.mp hx).1
    have h2 := (List.mem_filter.mp hy).2
    rw [Bool.and_eq_true] at h2
    rw [decide_eq_true h1] at h2
    exact absurd h2.2 (by decide)
  refine ⟨up_of_le hs (hp.nodup_iff.mpr nd), fun x => ?_⟩
  rw [hp.mem_iff, List.mem_append, List.mem_filter, List.mem_filter, Bool.or_eq_true, Bool.and_eq_true]
  simp only [decide_eq_true_eq, Bool.not_eq_true', decide_eq_false_iff_not]
  by_cases x ∈ a <;> by_cases x ∈ b <;> by_cases x ∈ c <;> simp_all
theorem filt_yes {α : Type} {f : α → Bool} {l : List α} {i : Nat} {n : α} (hn : l[i]? = some n) (hf : f n = true) : (l.take (i + 1)).filter f = (l.take i).filter f ++ [n] := by
  rw [take_snoc hn, List.filter_append, List.filter_cons, if_pos hf]
  rfl
theorem filt_no {α : Type} {f : α → Bool} {l : List α} {i : Nat} {n : α} (hn : l[i]? = some n) (hf : f n = false) : (l.take (i + 1)).filter f = (l.take i).filter f := by
  rw [take_snoc hn, List.filter_append, List.filter_cons, if_neg (by rw [hf]; decide)]
  exact List.append_nil _
theorem filt_len {α : Type} (f : α → Bool) (l : List α) (i : Nat) : ((l.take i).filter f).length ≤ l.length :=
  Nat.le_trans (List.length_filter_le _ _) (by rw [List.length_take]; omega)
end TW
set_option Elab.async false
set_option linter.all false
set_option maxRecDepth 100000
set_option maxHeartbeats 4000000
namespace TW
open PySem PySem.Spec PyProof.Rows L2
/-! calls by keywords alone -/
def OkKw (P : Program) (w : World) (K : PySem.W.Frag) (mg : Str → Option Value) (base : Heap) (k : Nat) (x : Str) (ps ks : List Str) (g : List Value → List Value → List Value) (gV : List V → List V → List V) (sp : Sp) : Prop :=
  ∃ (f : Addr) (fd : FuncData), FnOk P w K mg base CX0 k f fd ps sp ∧ mg x = some (.ref f) ∧ PySem.W.keepIn K (.ref f) = true ∧ KBinds K fd ps ks g gV
def tKw (sp : Sp) (gV : List V → List V → List V) (tk : TA) : TE := fun σ H Q => tk σ H fun zs H2 => sp (gV [] zs) H2 Q E0
theorem pe_kw0 {X : Cx} {k : Nat} {x : Str} {ps ks : List Str} {g : List Value → List Value → List Value} {gV : List V → List V → List V} {sp : Sp} {kws : List Keyword} {tk : TA} {p pos : Pos} (O : OkKw X.prog X.w X.K X.mg X.base k x ps ks g gV sp) (hr : Room k X.A) (hkw : PK X kws tk) (hg : Gl X x := by rfl)
    (hall : (backToKw pos (keywordEach kws X.env)).all (·.1.isSome) = true := by rfl) (hks : (backToKw pos (keywordEach kws X.env)).filterMap (·.1) = ks := by rfl) (hdb : (x == ("__debug__" : Str)) = false := by decide)
    (hpl : ((backTo pos (starEach [] X.env)).any (·.1) || (backToKw pos (keywordEach kws X.env)).any (·.1.isNone)) = false := by rfl) : PE X (.Call (.Name x p) [] kws pos) (tKw sp gV tk) := by
  obtain ⟨f, fd, F, gm, kp, b⟩ := O
  refine ⟨fun pins s σ H Q I h => wpAny_Call_Name_kw (ld_glob I hg gm ?_ hdb)⟩
  refine PySem.W.callWith_KW0 (h₀ := X.base) I.ok.mod.kin kp hall (thn (hkw.run pos pins s σ H _ I h) fun ws s2 h2 => ?_) hpl
  obtain ⟨zs, H2, I2, rz, q2⟩ := h2
  refine ⟨I2.kIn, ?_⟩
  rw [hks]
  exact run_fnk (us := []) (vs := []) F hr b pass0 I2 .nil rz q2
theorem set_same {α : Type} {l : List α} {j : Nat} {x : α} (h : l[j]? = some x) : l.set j x = l := by
  refine List.ext_getElem? fun i => ?_
  by_cases e : j = i
  · subst e
    rw [List.getElem?_set_self (List.getElem?_eq_some_iff.mp h).1, h]
  · rw [List.getElem?_set_ne e]
/-- if m: xs.append(k), both ways at once -/
theorem if_app {K : PySem.W.Frag} {D : Ends} {σ : L2.St} {H0 H : Hp} {l : List (Addr × HO)} {j sl sk : Nat} {o : Addr} {L : List Int} {k : Int} (m : Bool) (hs : σ[sl]? = some (some (.ref o))) (hk : σ[sk]? = some (some (.int k))) (T : Has H0 H l) (hj : l[j]? = some (o, .lst (L.map V.int)))
    (hz : L.length < 100000) (go : ∀ H', Has H0 H' (l.set j (o, .lst ((if m = true then L ++ [k] else L).map V.int))) → D.nx σ H') : if m = true then tDrop (tBM K "list" rAppend (tVar sl) (tCons (tVar sk) tNil)) D σ H else tNext D σ H := by
  cases m with
  | true =>
    refine ⟨_, hs, .inl ⟨rfl, _, Evl.sq_of (T.get j hj)⟩, _, hk, o, _, _, rfl, rfl, T.get j hj, szl (by rw [List.length_map]; exact hz), ?_⟩
    refine go _ ?_
    rw [if_pos rfl, List.map_append]
    exact T.set j hj
  | false =>
    refine go H ?_
    rw [if_neg (by decide), set_same hj]
    exact T
theorem rep_tup {n : Nat} {H : Hp} {t u : Addr} {m : List Int} (h : H t = some (.tup (m.map V.int))) (h' : H u = some (.tup (m.map V.int))) (hl : m.length ≤ 10000) : Rep (n + 1) H (.ref t) (.ref u) := by
  refine .inr ⟨t, u, _, _, rfl, rfl, .inr ⟨h, h'⟩, rfl, by rw [List.length_map]; exact hl, fun i x y hx hy => ?_⟩
  obtain ⟨v, hv, rfl⟩ := map_get hx
  rw [hx] at hy
  obtain rfl := Option.some.inj hy
  exact Rep.flat rfl
end TW
set_option Elab.async false
set_option linter.all false
set_option maxRecDepth 100000
set_option maxHeartbeats 4000000
namespace TW
open PySem PySem.Spec PyProof.Rows L2
section
variable {P : Program} {w : World} {K : PySem.W.Frag} {mg : Str → Option Value} {base : Heap}
def spCheckLot (K : PySem.W.Frag) : Sp := fun vs H Q _ => ∃ (a : Addr) (ns : List Int) (t : Option Int), vs = [.ref a, thV t] ∧ SqT K H a (ns.map V.int) ∧ ns.length ≤ 1000 ∧ isLot ns t = true ∧ ∀ H', Ex H H' → Q .non H'
def spMiddle (K : PySem.W.Frag) : Sp := fun vs H Q _ => ∃ (a b c : Addr) (xs ys zs : List Int), vs = [.ref a, .ref b, .ref c] ∧ SqT K H a (xs.map V.int) ∧ SqT K H b (ys.map V.int) ∧ SqT K H c (zs.map V.int) ∧ lotOk xs ∧ lotOk ys ∧ lotOk zs ∧
  ∀ (p : Addr) (H' : Hp) (m : List Int), H p = none → Ex H H' → H' p = some (.tup (m.map V.int)) → IsMid xs ys zs m → Q (.ref p) H'
end
end TW
set_option Elab.async false
set_option linter.all false
set_option maxRecDepth 100000
set_option maxHeartbeats 4000000
/-! sorted of a list of tuples of ints of any lengths, the empty one too -/
namespace TW
open PySem PySem.W PySem.Calls PyProof.Rows
theorem lex_list : ∀ xs ys : List Int, HT.lexLt xs ys = decide (xs < ys)
  | [], [] => rfl
  | [], y :: ys => (decide_eq_true (by exact List.nil_lt_cons y ys)).symm
  | x :: xs, [] => (decide_eq_false (by exact List.not_lt_nil _)).symm
  | x :: xs, y :: ys => by
    rw [HT.lexLt_cons, Bool.eq_iff_iff, decide_eq_true_eq, List.cons_lt_cons_iff]
    by_cases e : x = y
    · subst e
      rw [if_pos rfl, lex_list xs ys, decide_eq_true_eq]
      constructor
      · exact fun h => .inr ⟨rfl, h⟩
      · rintro (h | ⟨_, h⟩)
        · exact absurd h (Int.lt_irrefl x)
        · exact h
    · rw [if_neg e, decide_eq_true_eq]
      constructor
      · exact .inl
      · rintro (h | ⟨h, _⟩)
        · exact h
        · exact absurd h e
def tupD (ns : List Int) : PyData := .tuple (ns.map .int)
theorem lt_tupD (xs ys : List Int) : dataLt (tupD xs) (tupD ys) = HT.lexLt xs ys := by
  unfold tupD
  rw [dataLt_tuple, lex_list]
  exact dataLt_ints xs ys
theorem alike_tupD (xs ys : List Int) : alike (tupD xs) (tupD ys) = true := by
  unfold tupD
  simpa [alike] using alike_ints xs ys
theorem depth_tupD (xs : List Int) : (tupD xs).depth ≤ 1 := by
  unfold tupD
  simp [PyData.depth, depth_ints]
section
variable {prog : Program} {w : World} {A : Around} {E : Value → Shared → Prop} {s : Shared} {M : Model}
theorem ints_of_reads : ∀ {ns : List Int} {vs : List Value} {as : List Addr}, ReadsAll s.heap vs (ns.map .int) as → IntsAre vs ns
  | [], _, _, h => by cases h; exact .nil
  | n :: ns, _, _, h => by
    cases h with
    | cons r1 r2 =>
      cases r1
      exact .cons _ _ (ints_of_reads r2)
theorem first_lots : ∀ {vs : List Value} {ds : List PyData}, EachIs (fun v d => ∃ as, Reads s.heap v d as) vs ds → (∀ d ∈ ds, ∃ ns, d = tupD ns) →
    ∃ fs : List (Option Value), (fs.all (·.isSome) = true → ∀ d ∈ ds, ∃ x r, d = .tuple (x :: r)) ∧ ∀ {E : Value → Shared → Prop} {Q : List (Option Value) → Shared → Prop}, Q fs s → wpAny M A (vs.mapM firstOfTuple') Q E s
  | _, _, .nil, _ => ⟨[], fun _ d hd => absurd hd List.not_mem_nil, fun {E Q} h => by rw [List.mapM_nil]; exact wpAny_pure h⟩
  | v :: vs, d :: ds, .cons ⟨as, r⟩ t, hl => by
    obtain ⟨fs, h1, h2⟩ := first_lots t fun d hd => hl d (List.mem_cons_of_mem _ hd)
    obtain ⟨ns, rfl⟩ := hl d List.mem_cons_self
    unfold tupD at r
    cases r with
    | @tuple a o xs n _ _ ho hc hd hr =>
      refine ⟨xs[0]? :: fs, fun hall d hm => ?_, fun {E Q} hq => ?_⟩
      · rw [List.all_cons, Bool.and_eq_true] at hall
        rcases List.mem_cons.mp hm with e | e
        · subst e
          cases ns with
          | nil =>
            have q : xs.toList = [] := by
              cases e2 : xs.toList with
              | nil => rfl
              | cons f fr => rw [e2] at hr; cases hr
            have q2 : xs = #[] := by simpa using q
            rw [q2] at hall
            exact absurd hall.1 (by simp)
          | cons k r => exact ⟨_, _, rfl⟩
        · exact h1 hall.2 d e
      · rw [List.mapM_cons, kas_first_eq]
        refine wpAny_bind (wpAny_bind (Looks.here (show Looks M s.heap (typeOf (.ref a)) o.cls from (Looks.ld ho).andThen .now) ?_))
        rw [hc, if_neg (by simp)]
        refine wpAny_bind (listItems_at ho hd (wpAny_pure ?_))
        exact wpAny_bind (h2 (wpAny_pure hq))
theorem oneLt_tups {f : Bool} {xs ys : List Int} {a b : Value} {as bs : List Addr} {Q : Bool → Shared → Prop} (ra : Reads s.heap a (tupD xs) as) (rb : Reads s.heap b (tupD ys) bs) (hu : A.units + 3 < cLine) (hq : Q (HT.lexLt xs ys) s) : wpAny (model prog w) A (oneLt' f a b) Q E s := by
  cases f with
  | false =>
    refine oneLt_alike (fun h => absurd h Bool.false_ne_true) ra rb (alike_tupD xs ys) (fun h => by cases h) ?_ (by rw [lt_tupD]; exact hq)
    have d1 := depth_tupD xs
    omega
  | true =>
    unfold tupD at ra rb
    cases ra with
    | @tuple l o its n _ _ h1 h2 h3 h4 =>
      cases rb with
      | @tuple l' o' its' n' _ _ k1 k2 k3 k4 =>
        obtain ⟨oc, od, odat, osl⟩ := o
        obtain ⟨oc', od', odat', osl'⟩ := o'
        simp only at h2 h3 k2 k3
        subst h2 h3 k2 k3
        rw [oneLt'_eq]
        simp only [if_true]
        refine wpAny_bind (wpAny_cRoomFor (by omega) ?_)
        refine wpAny_bind (wpAny_callSpecialIfBound?_slot (T := "tuple") ⟨_, h1, rfl⟩ F.slot_tuple_lt (call_meets F.slot_tuple_lt ⟨_, h1, rfl⟩ F.entry_tuple_lt (F.args_tuple_lt_2 _ _) (HT.tuple_lt_ints l l' its its' n n' od od' osl osl' xs ys (ints_of_reads h4) (ints_of_reads k4)) ⟨h1, k1, ?_⟩))
        exact wpAny_truthy_bool hq
theorem sorts_lots {vs : List Value} {ds : List PyData} (e : EachIs (fun v d => ∃ as, Reads s.heap v d as) vs ds) (hl : ∀ d ∈ ds, ∃ ns, d = tupD ns) (hu : A.units + 5 < cLine) : SortsAt prog w A s (dataKind s.heap ds) vs := by
  have hal : AllAlike ds := fun d hd d' hd' => by
    obtain ⟨xs, rfl⟩ := hl d hd
    obtain ⟨ys, rfl⟩ := hl d' hd'
    exact alike_tupD xs ys
  obtain ⟨fs, hfs, run⟩ := first_lots (M := model prog w) (A := A) e hl
  by_cases hs : fs.all (·.isSome) = true
  · refine SortsAt.data e hal (.inl (hfs hs)) fun d hd => ?_
    obtain ⟨xs, rfl⟩ := hl d hd
    have := depth_tupD xs
    omega
  · have lt : ∀ kd : SortKind, (∀ x y, keyLt' kd x y = oneLt' true x y) ∨ (∀ x y, keyLt' kd x y = oneLt' false x y) → PyProof.Rows.H.LtAt prog w A s (dataKind s.heap ds) kd := fun kd hk E x y a b Q ha hb hq => by
      obtain ⟨d, as, hd, ra, rfl⟩ := dataKind_inv ha
      obtain ⟨d', as', hd', rb, rfl⟩ := dataKind_inv hb
      obtain ⟨xs, rfl⟩ := hl d hd
      obtain ⟨ys, rfl⟩ := hl d' hd'
      have hq' : Q (dataLt (tupD xs) (tupD ys)) s := hq
      rw [lt_tupD] at hq'
      rcases hk with hk | hk
      · rw [hk]
        exact oneLt_tups ra rb (by omega) hq'
      · rw [hk]
        exact oneLt_tups ra rb (by omega) hq'
    refine ⟨fun v hv => ?_, ?_⟩
    · obtain ⟨d, hd, as, r⟩ := e.left v hv
      exact ⟨_, dataKind_some hal hd r⟩
    · have hna : ¬ (fs.toArray.all fun x => x.isSome) = true := by simpa using hs
      by_cases h0 : (fs[0]?.bind id).isSome = true
      · refine ⟨general', lt _ (.inr fun _ _ => rfl), fun h2 E Q hq => ?_⟩
        rw [kat_kind_eq, List.mapM_toArray, map_eq_pure_bind]
        refine wpAny_bind (wpAny_bind (run (wpAny_pure ?_)))
        rw [if_neg hna, if_pos (by simpa using h0)]
        exact wpAny_pure hq
      · refine ⟨oneType', lt _ (.inl fun _ _ => rfl), fun h2 E Q hq => ?_⟩
        obtain ⟨v₁, v₂, rest, rfl⟩ : ∃ v₁ v₂ rest, vs = v₁ :: v₂ :: rest := by
          match vs, h2 with
          | v₁ :: v₂ :: rest, _ => exact ⟨v₁, v₂, rest, rfl⟩
          | [], h => exact absurd h (by decide)
          | [v], h => exact absurd h (by simp)
        rw [kat_kind_eq, List.mapM_toArray, map_eq_pure_bind]
        refine wpAny_bind (wpAny_bind (run (wpAny_pure ?_)))
        rw [if_neg hna, if_neg (by simpa using h0), oneTypeOnly'_eq, List.mapM_toArray, map_eq_pure_bind]
        refine wpAny_bind (wpAny_bind (wpAny_bind (kas_mapM (r := Value.type "tuple") _ (fun v hv Q' hq' => ?_) (wpAny_pure ?_))))
        · obtain ⟨d, hd, as, r⟩ := e.left v hv
          obtain ⟨xs, rfl⟩ := hl d hd
          exact (looks_reads r).here hq'
        · have all1 : ((List.map (fun _ => Value.type "tuple") (v₁ :: v₂ :: rest)).toArray.all fun x => x == Value.type "tuple") = true := by
            simp only [List.all_toArray, List.all_map, List.all_eq_true]
            exact fun _ _ => beq_self_eq_true _
          have at0 : (List.map (fun _ => Value.type "tuple") (v₁ :: v₂ :: rest)).toArray[0]? = some (Value.type "tuple") := by simp
          rw [at0]
          simp only [all1, if_true]
          exact wpAny_pure (wpAny_pure hq)
end
end TW
set_option Elab.async false
set_option linter.all false
set_option maxRecDepth 100000
set_option maxHeartbeats 4000000
/-! sorted of a list of data, as a rule -/
namespace TW
open PySem PySem.Spec PyProof.Rows L2
open PySem.W (EachIs AllAlike Sortable dataLt dataLe dataKind)
theorem each_of_vals : ∀ {bs : List (V × PyData)} {us : List Value}, Vals (bs.map (·.1)) us → EachIs (fun v b => RelV b.1 v) us bs
  | [], _, .nil => .nil
  | b :: bs, _, .cons r t => .cons r (each_of_vals t)
theorem vals_of_each : ∀ {us : List Value} {bs : List (V × PyData)}, EachIs (fun v b => RelV b.1 v) us bs → Vals (bs.map (·.1)) us
  | _, _, .nil => .nil
  | _, _, .cons r t => .cons r (vals_of_each t)
theorem dataLe_pw (bs : List (V × PyData)) : (bs.mergeSort (dataLe false (·.2))).Pairwise (fun x y => dataLt y.2 x.2 = false) := by
  have T := PySem.W.sortLe_total (PyProof.Rows.listOrd PyProof.Rows.itemOrd) false (fun b : V × PyData => PySem.W.keyToks b.2)
  have e : dataLe false (fun b : V × PyData => b.2) = PySem.W.sortLe (PyProof.Rows.listOrd PyProof.Rows.itemOrd) false (fun b : V × PyData => PySem.W.keyToks b.2) := rfl
  have h := List.pairwise_mergeSort (le := dataLe false (fun b : V × PyData => b.2)) (fun a b c h1 h2 => by rw [e] at h1 h2 ⊢; exact T.trans a b c h1 h2) (fun a b => by rw [e]; rcases T.total a b with h | h <;> simp [h]) bs
  refine h.imp fun {x y} h => ?_
  have h' : (!dataLt y.2 x.2) = true := h
  rw [Bool.not_eq_true'] at h'
  exact h'
def rSortD (K : PySem.W.Frag) : List V → Hp → VK → Prop := fun vs H Q => ∃ (a : Addr) (bs : List (V × PyData)), vs = [.ref a] ∧ SqL K H a (bs.map (·.1)) ∧ (∀ b ∈ bs, Dp K H b.1 b.2) ∧
  ((AllAlike (bs.map (·.2)) ∧ Sortable (bs.map (·.2))) ∨ ∀ b ∈ bs, ∃ ns, b.2 = tupD ns) ∧ (∀ b ∈ bs, b.2.depth ≤ 20) ∧
  ∀ (bs' : List (V × PyData)) (p : Addr), bs'.Perm bs → bs'.Pairwise (fun x y => dataLt y.2 x.2 = false) → H p = none → Q (.ref p) (upd H p (.lst (bs'.map (·.1))))
def rSortE (K : PySem.W.Frag) : List V → Hp → VK → Prop := fun vs H Q => ∃ (a : Addr) (bs : List (V × PyData)), vs = [.ref a] ∧ SqL K H a (bs.map (·.1)) ∧ (∀ b ∈ bs, Dp K H b.1 b.2) ∧
  ((AllAlike (bs.map (·.2)) ∧ Sortable (bs.map (·.2))) ∨ ∀ b ∈ bs, ∃ ns, b.2 = tupD ns) ∧ (∀ b ∈ bs, b.2.depth ≤ 20) ∧
  ∀ p : Addr, H p = none → Q (.ref p) (upd H p (.lst ((bs.mergeSort (dataLe false (·.2))).map (·.1))))
section
variable {X : Cx} {K : PySem.W.Frag}
theorem cr_sortE (hu : X.A.units + 64 < cLine) (hK : X.K = K := by rfl) : CallR X (.builtin "sorted") (rSortE K) := by
  subst hK
  intro pins s σ H vs us Q I r h
  obtain ⟨a, bs, rfl, hs, hd, hk, hdep, q⟩ := h
  obtain ⟨its, rv, hl, hz⟩ := I.list hs
  rw [Vals.ref1 r]
  have lz : its.length = bs.length := by rw [← rv.length, List.length_map]
  have e := each_of_vals rv
  have er : EachIs (fun v b => ∃ as, Reads s.heap v b.2 as) its bs := by
    have e2 := PySem.W.each_mem e
    exact e2.mono fun v b z => Dp.reads I b.2 b.1 v (hd b z.2) z.1
  have er' : EachIs (fun v b => ∃ as, Reads (PySem.W.sortingHeap (PySem.W.copyHeap s.heap its) (s.heap.objs.size + 1) its) v b.2 as) its bs := er.mono fun _ _ z => by
    obtain ⟨as, r⟩ := z
    exact ⟨as, PyProof.Rows.Reads.keeps (fun _ _ => PySem.W.sorting_copy_old) r⟩
  have hal : AllAlike (bs.map (·.2)) := by
    rcases hk with hk | hk
    · exact hk.1
    · intro d hd1 d' hd2
      obtain ⟨b, hb, rfl⟩ := List.mem_map.mp hd1
      obtain ⟨b', hb', rfl⟩ := List.mem_map.mp hd2
      obtain ⟨xs, e1⟩ := hk b hb
      obtain ⟨ys, e2⟩ := hk b' hb'
      rw [e1, e2]
      exact alike_tupD xs ys
  have em := PySem.W.each_map (R := fun v d => ∃ as, Reads (PySem.W.sortingHeap (PySem.W.copyHeap s.heap its) (s.heap.objs.size + 1) its) v d as) (fun b : V × PyData => b.2) er'
  have S : PySem.W.SortsAt X.prog X.w X.A.in1.in1 { s with heap := PySem.W.sortingHeap (PySem.W.copyHeap s.heap its) (s.heap.objs.size + 1) its } (dataKind (PySem.W.sortingHeap (PySem.W.copyHeap s.heap its) (s.heap.objs.size + 1) its) (bs.map (·.2))) its := by
    rcases hk with hk | hk
    · refine PySem.W.SortsAt.data em hal hk.2 fun d hd1 => ?_
      obtain ⟨b, hb, rfl⟩ := List.mem_map.mp hd1
      have := hdep b hb
      show X.A.units + 1 + 1 + b.2.depth < cLine
      omega
    · refine sorts_lots em (fun d hd1 => ?_) (by show X.A.units + 1 + 1 + 5 < cLine; omega)
      obtain ⟨b, hb, rfl⟩ := List.mem_map.mp hd1
      exact hk b hb
  refine PySem.W.sorted_vals hl.isList S (by rw [← rv.length]; exact hz) ?_
  have eo := PySem.W.sortVals_data (h' := PySem.W.sortingHeap (PySem.W.copyHeap s.heap its) (s.heap.objs.size + 1) its) (enc := fun b : V × PyData => b.2) false e er' hal
  generalize PySem.W.sortVals (dataKind (PySem.W.sortingHeap (PySem.W.copyHeap s.heap its) (s.heap.objs.size + 1) its) (bs.map (·.2))) false its its = out at eo
  obtain ⟨ep, hat⟩ := PyProof.Rows.sortedAll_at s.heap its out.toArray
  have pm : (bs.mergeSort (dataLe false (·.2))).Perm bs := List.mergeSort_perm bs _
  have hlen : ((bs.mergeSort (dataLe false (·.2))).map (·.1)).length ≤ sizeLine := by
    rw [List.length_map, pm.length_eq, ← List.length_map (f := (·.1))]
    exact hz
  exact ⟨.ref _, upd H (s.heap.objs.size + 1) (.lst ((bs.mergeSort (dataLe false (·.2))).map (·.1))), I.laid (t' := s.toks) (fun _ _ => PyProof.Rows.sortedAll_old) (Nat.le_succ _) ⟨hlen, out, ep, vals_of_each eo, hat⟩, rfl, q _ (I.hok.fresh (Nat.le_succ _))⟩
theorem cr_sortD (hu : X.A.units + 64 < cLine) (hK : X.K = K := by rfl) : CallR X (.builtin "sorted") (rSortD K) := fun pins s σ H vs us Q I r h => by
  obtain ⟨a, bs, h1, h2, h3, h4, h5, q⟩ := h
  exact cr_sortE hu hK pins s σ H vs us Q I r ⟨a, bs, h1, h2, h3, h4, h5, fun p hp => q _ p (List.mergeSort_perm bs _) (dataLe_pw bs) hp⟩
end
/-! lots -/
section
variable {K : PySem.W.Frag} {H : Hp}
theorem dpAll_ints : ∀ ns : List Int, DpAll K H (ns.map V.int) (ns.map .int)
  | [] => .nil
  | n :: ns => .cons (.int n) (dpAll_ints ns)
theorem dp_lot {t : Addr} {ns : List Int} (h : SqT K H t (ns.map V.int)) : Dp K H (.ref t) (tupD ns) := .tup h (dpAll_ints ns)
end
end TW
set_option Elab.async false
set_option linter.all false
set_option maxRecDepth 100000
set_option maxHeartbeats 4000000
/-! data that stands in the heap -/
namespace TW
open PySem PySem.Spec PyProof.Rows L2
open PySem.W (EachIs AllAlike Sortable dataLt dataLe dataKind)
inductive At (H : Hp) : V → PyData → Prop
  | non : At H .non .none
  | bl (b : Bool) : At H (.bl b) (.bool b)
  | int (i : Int) : At H (.int i) (.int i)
  | str (x : Str) : At H (.str x) (.str x)
  | lst {a : Addr} {xs : List V} {ds : List PyData} (h : H a = some (.lst xs)) (l : xs.length = ds.length) (p : ∀ (i : Nat) x d, xs[i]? = some x → ds[i]? = some d → At H x d) : At H (.ref a) (.list ds)
  | tup {a : Addr} {xs : List V} {ds : List PyData} (h : H a = some (.tup xs)) (l : xs.length = ds.length) (p : ∀ (i : Nat) x d, xs[i]? = some x → ds[i]? = some d → At H x d) : At H (.ref a) (.tuple ds)
def Ats (H : Hp) (xs : List V) (ds : List PyData) : Prop := xs.length = ds.length ∧ ∀ (i : Nat) x d, xs[i]? = some x → ds[i]? = some d → At H x d
section
variable {H H' : Hp} {K : PySem.W.Frag} {x : V} {d : PyData} {a : Addr} {xs : List V} {ds : List PyData}
theorem At.ex (e : Ex H H') (h : At H x d) : At H' x d := by
  induction h with
  | non => exact .non
  | bl b => exact .bl b
  | int i => exact .int i
  | str x => exact .str x
  | lst h l p ih => exact .lst (e _ _ h) l ih
  | tup h l p ih => exact .tup (e _ _ h) l ih
theorem Ats.ex (e : Ex H H') (h : Ats H xs ds) : Ats H' xs ds := ⟨h.1, fun i x d h1 h2 => (h.2 i x d h1 h2).ex e⟩
theorem Ats.nil : Ats H [] [] := ⟨rfl, fun i x d h _ => by cases h⟩
theorem Ats.cons (h : At H x d) (t : Ats H xs ds) : Ats H (x :: xs) (d :: ds) := ⟨by rw [List.length_cons, List.length_cons, t.1], fun i y e h1 h2 => by
  cases i with
  | zero =>
    cases h1
    cases h2
    exact h
  | succ i => exact t.2 i y e h1 h2⟩
theorem Ats.head (h : Ats H (x :: xs) (d :: ds)) : At H x d := h.2 0 x d rfl rfl
theorem Ats.rest (h : Ats H (x :: xs) (d :: ds)) : Ats H xs ds := ⟨by have := h.1; rw [List.length_cons, List.length_cons] at this; omega, fun i y e h1 h2 => h.2 (i + 1) y e h1 h2⟩
theorem Ats.snoc (h : Ats H xs ds) (t : At H x d) : Ats H (xs ++ [x]) (ds ++ [d]) := ⟨by rw [List.length_append, List.length_append, h.1]; rfl, fun i y e h1 h2 => by
  rcases Nat.lt_trichotomy i xs.length with c | c | c
  · rw [List.getElem?_append_left c] at h1
    rw [List.getElem?_append_left (by rw [← h.1]; exact c)] at h2
    exact h.2 i y e h1 h2
  · rw [List.getElem?_append_right (by omega), show i - xs.length = 0 by omega] at h1
    rw [List.getElem?_append_right (by rw [← h.1]; omega), show i - ds.length = 0 by rw [← h.1]; omega] at h2
    cases h1
    cases h2
    exact t
  · rw [List.getElem?_append_right (by omega), List.getElem?_eq_none (by rw [List.length_singleton]; omega)] at h1
    cases h1⟩
theorem Ats.append {ys : List V} {es : List PyData} (h : Ats H xs ds) (t : Ats H ys es) : Ats H (xs ++ ys) (ds ++ es) := by
  induction ys generalizing xs ds es with
  | nil =>
    cases es with
    | nil => rw [List.append_nil, List.append_nil]; exact h
    | cons e es => cases t.1
  | cons y ys ih =>
    cases es with
    | nil => cases t.1
    | cons e es =>
      have := ih (h.snoc t.head) t.rest
      rw [List.append_assoc, List.append_assoc] at this
      exact this
theorem Ats.at_ (h : Ats H xs ds) {i : Nat} (hd : ds[i]? = some d) : ∃ x, xs[i]? = some x ∧ At H x d := by
  have hi := (List.getElem?_eq_some_iff.mp hd).1
  have hx : xs[i]? = some (xs[i]'(by rw [h.1]; exact hi)) := List.getElem?_eq_getElem (by rw [h.1]; exact hi)
  exact ⟨_, hx, h.2 i _ _ hx hd⟩
theorem Ats.at' (h : Ats H xs ds) {i : Nat} (hx : xs[i]? = some x) : ∃ d, ds[i]? = some d ∧ At H x d := by
  have hi := (List.getElem?_eq_some_iff.mp hx).1
  have hd : ds[i]? = some (ds[i]'(by rw [← h.1]; exact hi)) := List.getElem?_eq_getElem (by rw [← h.1]; exact hi)
  exact ⟨_, hd, h.2 i _ _ hx hd⟩
theorem Ats.map_ {α : Type} {l : List α} {f : α → V} {g : α → PyData} (h : ∀ y ∈ l, At H (f y) (g y)) : Ats H (l.map f) (l.map g) := by
  induction l with
  | nil => exact .nil
  | cons y l ih => exact .cons (h y List.mem_cons_self) (ih fun z hz => h z (List.mem_cons_of_mem _ hz))
theorem At.mkL (h : H a = some (.lst xs)) (t : Ats H xs ds) : At H (.ref a) (.list ds) := .lst h t.1 t.2
theorem At.mkT (h : H a = some (.tup xs)) (t : Ats H xs ds) : At H (.ref a) (.tuple ds) := .tup h t.1 t.2
theorem At.isL (h : At H x (.list ds)) : ∃ a xs, x = .ref a ∧ H a = some (.lst xs) ∧ Ats H xs ds := by
  cases h with
  | lst h l p => exact ⟨_, _, rfl, h, l, p⟩
theorem At.isT (h : At H x (.tuple ds)) : ∃ a xs, x = .ref a ∧ H a = some (.tup xs) ∧ Ats H xs ds := by
  cases h with
  | tup h l p => exact ⟨_, _, rfl, h, l, p⟩
theorem At.isI {i : Int} (h : At H x (.int i)) : x = .int i := by
  cases h
  rfl
theorem At.isS {i : Str} (h : At H x (.str i)) : x = .str i := by
  cases h
  rfl
theorem ats_dp : ∀ {xs : List V} {ds : List PyData}, xs.length = ds.length → (∀ (i : Nat) x d, xs[i]? = some x → ds[i]? = some d → Dp K H x d) → DpAll K H xs ds
  | [], [], _, _ => .nil
  | [], _ :: _, h, _ => by cases h
  | _ :: _, [], h, _ => by cases h
  | x :: xs, d :: ds, h, p => .cons (p 0 x d rfl rfl) (ats_dp (by rw [List.length_cons, List.length_cons] at h; omega) fun i y e h1 h2 => p (i + 1) y e h1 h2)
theorem At.dp (h : At H x d) : Dp K H x d := by
  induction h with
  | non => exact .non
  | bl b => exact .bl b
  | int i => exact .int i
  | str x => exact .str x
  | lst h l p ih => exact .lst (Evl.sq_of h) (ats_dp l ih)
  | tup h l p ih => exact .tup (Evl.st_of h) (ats_dp l ih)
end
/-! sorted, to the item -/
def dLe : PyData → PyData → Bool := dataLe false id
theorem sort_data (bs : List (V × PyData)) : (bs.mergeSort (dataLe false (·.2))).map (·.2) = (bs.map (·.2)).mergeSort dLe := List.map_mergeSort fun _ _ _ _ => rfl
theorem ats_sort {H : Hp} {bs : List (V × PyData)} (h : ∀ b ∈ bs, At H b.1 b.2) : Ats H ((bs.mergeSort (dataLe false (·.2))).map (·.1)) ((bs.map (·.2)).mergeSort dLe) := by
  rw [← sort_data]
  exact Ats.map_ fun b hb => h b ((List.mergeSort_perm bs _).mem_iff.mp hb)
end TW
set_option Elab.async false
set_option linter.all false
set_option maxRecDepth 100000
set_option maxHeartbeats 4000000
namespace TW
open PySem PySem.Spec PyProof.Rows L2
/-! literals, rules, lots -/
abbrev Sgn := Nat × Bool
abbrev Bar := List Sgn
def sw (b : Bool) : Str := if b then "in" else "out"
def dSgn (s : Sgn) : PyData := .tuple [.int s.1, .str (sw s.2)]
def dBar (b : Bar) : PyData := .tuple (b.map dSgn)
def dBars (bs : List Bar) : PyData := .list (bs.map dBar)
def bitB (m : Int) (k : Nat) : Bool := decide (m / 2 ^ k % 2 = 1)
def lotOf (m : Int) (w : Nat) : List Int := ((List.range w).filter (bitB m)).map fun k : Nat => (k : Int)
def met (m : Int) (s : Sgn) : Bool := bitB m s.1 == s.2
def keptB (m : Int) (bs : List Bar) : Bool := bs.all fun b => b.any (met m)
theorem At.sgn {H : Hp} {v : V} {s : Sgn} (h : At H v (dSgn s)) : ∃ a, v = .ref a ∧ H a = some (.tup [.int s.1, .str (sw s.2)]) := by
  obtain ⟨a, xs, rfl, ha, hx⟩ := At.isT h
  match xs, hx with
  | [x, y], hx =>
    obtain rfl := hx.head.isI
    obtain rfl := hx.rest.head.isS
    exact ⟨a, rfl, ha⟩
  | [], hx => cases hx.1
  | [_], hx => cases hx.1
  | _ :: _ :: _ :: _, hx => cases hx.1
theorem at_sgn {H : Hp} {a : Addr} {s : Sgn} (h : H a = some (.tup [.int s.1, .str (sw s.2)])) : At H (.ref a) (dSgn s) := At.mkT h (.cons (.int _) (.cons (.str _) .nil))
theorem At.bar {H : Hp} {v : V} {b : Bar} (h : At H v (dBar b)) : ∃ a xs, v = .ref a ∧ H a = some (.tup xs) ∧ Ats H xs (b.map dSgn) := At.isT h
theorem At.bars {H : Hp} {v : V} {b : List Bar} (h : At H v (dBars b)) : ∃ a xs, v = .ref a ∧ H a = some (.lst xs) ∧ Ats H xs (b.map dBar) := At.isL h
theorem ats_get {α : Type} {H : Hp} {xs : List V} {l : List α} {f : α → PyData} (h : Ats H xs (l.map f)) {i : Nat} {x : V} (hx : xs[i]? = some x) : ∃ y, l[i]? = some y ∧ At H x (f y) := by
  obtain ⟨d, hd, hA⟩ := h.at' hx
  rw [List.getElem?_map] at hd
  cases e : l[i]? with
  | none => rw [e] at hd; cases hd
  | some y => rw [e] at hd; cases hd; exact ⟨y, rfl, hA⟩
theorem sw_in (b : Bool) : decide (V.str (sw b) = V.str "in") = b := by cases b <;> decide +kernel
theorem met_eq (m : Int) (s : Sgn) : decide (V.int (m / 2 ^ s.1 % 2 ^ 1) = V.int (if s.2 = true then 1 else 0)) = met m s := by
  unfold met bitB
  have e : m / 2 ^ s.1 % 2 ^ 1 = m / 2 ^ s.1 % 2 := by rw [Int.pow_one]
  rw [e]
  have h := Int.emod_two_eq (m / 2 ^ s.1)
  rcases h with h | h <;> rw [h] <;> cases s.2 <;> decide
section
variable {P : Program} {w : World} {K : PySem.W.Frag} {mg : Str → Option Value} {base : Heap}
def spMet : Sp := fun vs H Q _ => ∃ (m : Int) (v : V) (s : Sgn), vs = [.int m, v] ∧ At H v (dSgn s) ∧ Q (.bl (met m s)) H
def spKept : Sp := fun vs H Q _ => ∃ (m : Int) (v : V) (bs : List Bar), vs = [.int m, v] ∧ At H v (dBars bs) ∧ (∀ b ∈ bs, b.length ≤ 100) ∧ ∀ H', Ex H H' → Q (.bl (keptB m bs)) H'
theorem take_any {α : Type} (f : α → Bool) {l : List α} {i : Nat} {x : α} (h : l[i]? = some x) : ((l.take (i + 1)).map f) = (l.take i).map f ++ [f x] := by
  rw [take_snoc h, List.map_append]
  rfl
theorem any_id {α : Type} (f : α → Bool) (l : List α) : (l.map f).any id = l.any f := by
  rw [List.any_map]
  rfl
theorem all_id {α : Type} (f : α → Bool) (l : List α) : (l.map f).all id = l.all f := by
  rw [List.all_map]
  rfl
end
end TW
set_option Elab.async false
set_option linter.all false
set_option maxRecDepth 100000
set_option maxHeartbeats 4000000
namespace TW
open PySem PySem.Spec PyProof.Rows L2
section
variable {G H H' : Hp} {l : List (Addr × HO)} {t p : Addr} {u o : HO}
/-- what will not change any more goes to the ground -/
theorem Has.sink (h : Has G H ((t, u) :: l)) : Has (upd G t u) H l := by
  have ht := h.own (t, u) List.mem_cons_self
  have nd := List.nodup_cons.mp (show ((t, u).1 :: l.map (·.1)).Nodup from h.nd)
  refine ⟨fun a o e => ?_, fun q hq => ?_, nd.2⟩
  · by_cases c : a = t
    · rw [c, upd_same] at e
      cases e
      rw [c]
      exact ht.2
    · rw [upd_ne c] at e
      exact h.ex a o e
  · have hq' := h.own q (List.mem_cons_of_mem _ hq)
    refine ⟨?_, hq'.2⟩
    rw [upd_ne (fun c => nd.1 (List.mem_map.mpr ⟨q, hq, c⟩))]
    exact hq'.1
theorem Has.exS (h : Has G H ((t, u) :: l)) : Ex G (upd G t u) := Evl.Ex.new (h.own (t, u) List.mem_cons_self).1
theorem Has.perm {l' : List (Addr × HO)} (h : Has G H l) (s : l.Perm l') : Has G H l' := ⟨h.ex, fun q hq => h.own q (s.mem_iff.mpr hq), (s.map (·.1)).nodup_iff.mp h.nd⟩
theorem Has.swap {q r : Addr × HO} (h : Has G H (q :: r :: l)) : Has G H (r :: q :: l) := h.perm (List.Perm.swap _ _ _)
theorem Has.drop2 {q r : Addr × HO} (h : Has G H (q :: r :: l)) : Has G H (q :: l) := h.sub ((List.sublist_cons_self _ _).cons₂ _)
theorem Has.free (h : Has G H l) {a : Addr} (n : H a = none) : G a = none := Evl.fresh_back h.ex n
end
/-! the draws -/
def WellO (k : Nat) (o : HO) : Prop := ∃ a b c : Int, o = wl a b c ∧ 0 ≤ a ∧ 0 ≤ b ∧ b ≤ k ∧ 0 ≤ c ∧ c < 2 ^ 81
theorem WellO.up {j k : Nat} {o : HO} (h : WellO j o) (e : j ≤ k) : WellO k o := by
  obtain ⟨a, b, c, h1, h2, h3, h4, h5⟩ := h
  exact ⟨a, b, c, h1, h2, h3, by omega, h5⟩
def spDrawsW : Sp := fun vs H Q _ => ∃ c : Int, vs = [.int c] ∧ ∀ p o, H p = none → WellO 0 o → Q (.ref p) (upd H p o)
def spDipW : Sp := fun vs H Q _ => ∃ (p : Addr) (n : Nat) (o : HO) (k : Nat), vs = [.ref p, .int n] ∧ H p = some o ∧ WellO k o ∧ k < 10 ^ 9 ∧ 0 < n ∧ (n : Int) < 2 ^ 200 ∧ ∀ (r : Nat) (o' : HO), r < n → WellO (k + 1) o' → Q (.int r) (upd H p o')
section
variable {P : Program} {w : World} {K : PySem.W.Frag} {mg : Str → Option Value} {base : Heap}
theorem Ok.imp {k : Nat} {x : Str} {ps : List Str} {sp sp' : Sp} (O : Ok P w K mg base k x ps sp) (h : ∀ vs H Q E, sp' vs H Q E → sp vs H Q E) : Ok P w K mg base k x ps sp' := by
  obtain ⟨f, fd, F, r⟩ := O
  exact ⟨f, fd, F.imp h, r⟩
theorem ok_drawsW (O : Ok P w K mg base 1 "_law_draws_of" ["cell"] spDraws) : Ok P w K mg base 1 "_law_draws_of" ["cell"] spDrawsW := O.imp fun vs H Q E h => by
  obtain ⟨c, rfl, q⟩ := h
  exact ⟨c, rfl, fun p hp a b ha hb hc => q p _ hp ⟨a, 0, b, rfl, ha, Int.le_refl _, Int.le_refl _, hb, hc⟩⟩
theorem ok_dipW (O : Ok P w K mg base 1 "_law_dip" ["well", "upto"] spDip) : Ok P w K mg base 1 "_law_dip" ["well", "upto"] spDipW := O.imp fun vs H Q E h => by
  obtain ⟨p, n, o, k, rfl, hp, ⟨a, b, c, rfl, ha, hb, hk, hc, hc'⟩, hk', hn, hn', q⟩ := h
  refine ⟨p, n, a, b, c, rfl, hp, by omega, hn', ha, hb, by omega, hc, hc', fun r a' b' r0 r1 a0 b0 b1 => ?_⟩
  have e : r = ((r.toNat : Nat) : Int) := by omega
  rw [e]
  exact q r.toNat _ (by omega) ⟨a', b', c, rfl, a0, by omega, by omega, hc, hc'⟩
def spOneSign : Sp := fun vs H Q _ => ∃ (G : Hp) (l : List (Addr × HO)) (p : Addr) (o : HO) (k n : Nat), vs = [.ref p, .int n] ∧ Has G H ((p, o) :: l) ∧ WellO k o ∧ k < 10 ^ 8 ∧ 0 < n ∧ (n : Int) < 2 ^ 200 ∧
  ∀ (G' H' : Hp) (o' : HO) (x : V) (s : Sgn), Ex G G' → Has G' H' ((p, o') :: l) → WellO (k + 2) o' → s.1 < n → At G' x (dSgn s) → Q x H'
def barOk (n : Nat) (b : Bar) : Prop := b ≠ [] ∧ b.length ≤ 2 ∧ (∀ s ∈ b, s.1 < n) ∧ b.Pairwise fun s t => s.1 < t.1
def spOneBar : Sp := fun vs H Q _ => ∃ (G : Hp) (l : List (Addr × HO)) (p : Addr) (o : HO) (k n : Nat), vs = [.ref p, .int n] ∧ Has G H ((p, o) :: l) ∧ WellO k o ∧ k < 10 ^ 7 ∧ 0 < n ∧ (n : Int) < 2 ^ 200 ∧
  ∀ (G' H' : Hp) (o' : HO) (x : V) (b : Bar), Ex G G' → Has G' H' ((p, o') :: l) → WellO (k + 5) o' → barOk n b → At G' x (dBar b) → Q x H'
theorem alike_sgn (s t : Sgn) : PySem.W.alike (dSgn s) (dSgn t) = true := by
  unfold dSgn
  simp [PySem.W.alike, PySem.W.alikeAll]
theorem sgn_sort {ds : List Sgn} : PySem.W.AllAlike (ds.map dSgn) ∧ PySem.W.Sortable (ds.map dSgn) := by
  refine ⟨fun d hd d' hd' => ?_, .inl fun d hd => ?_⟩
  · obtain ⟨s, _, rfl⟩ := List.mem_map.mp hd
    obtain ⟨t, _, rfl⟩ := List.mem_map.mp hd'
    exact alike_sgn s t
  · obtain ⟨s, _, rfl⟩ := List.mem_map.mp hd
    exact ⟨_, _, rfl⟩
theorem perm_back {α β : Type} {f : α → β} : ∀ {m : List α} {l : List β}, l.Perm (m.map f) → ∃ m' : List α, m'.Perm m ∧ l = m'.map f
  | [], l, h => ⟨[], List.Perm.refl _, h.eq_nil⟩
  | a :: m, l, h => by
    obtain ⟨l1, l2, rfl⟩ := List.append_of_mem (h.mem_iff.mpr (show f a ∈ (a :: m).map f from List.mem_cons_self))
    have h2 : (f a :: (l1 ++ l2)).Perm (f a :: m.map f) := (List.perm_middle (a := f a) (l₁ := l1) (l₂ := l2)).symm.trans h
    obtain ⟨m', pm, e⟩ := perm_back h2.cons_inv
    obtain ⟨m1, m2, rfl, rfl, rfl⟩ := List.map_eq_append_iff.mp e.symm
    exact ⟨m1 ++ a :: m2, List.perm_middle.trans (pm.cons a), by rw [List.map_append, List.map_cons]⟩
theorem dep_sgn (s : Sgn) : (dSgn s).depth ≤ 1 := by
  unfold dSgn
  simp [PyData.depth, PyData.depthAll]
theorem sgn_lt {s t : Sgn} (h : PySem.W.dataLt (dSgn t) (dSgn s) = false) (n : s.1 ≠ t.1) : s.1 < t.1 := by
  refine Nat.lt_of_le_of_ne (Nat.le_of_not_lt fun c => ?_) n
  have e : PySem.W.dataLt (dSgn t) (dSgn s) = true := by
    show PyProof.Rows.lexLt PyProof.Rows.itemOrd (Sum.inl 1 :: (Sum.inl (t.1 : Int) :: _)) (Sum.inl 1 :: (Sum.inl (s.1 : Int) :: _)) = true
    rw [PyProof.Rows.lex_self, PyProof.Rows.lex_diff (O := PyProof.Rows.itemOrd) (fun e => by
      have := Sum.inl.inj e
      omega)]
    show decide ((t.1 : Int) < (s.1 : Int)) = true
    exact decide_eq_true (by omega)
  rw [e] at h
  cases h
end
end TW
set_option Elab.async false
set_option linter.all false
set_option maxRecDepth 100000
set_option maxHeartbeats 4000000
namespace TW
open PySem PySem.Spec PyProof.Rows L2
section
variable {P : Program} {w : World} {K : PySem.W.Frag} {mg : Str → Option Value} {base : Heap}
def spSomeBars : Sp := fun vs H Q _ => ∃ (G : Hp) (l : List (Addr × HO)) (p : Addr) (o : HO) (k n most : Nat), vs = [.ref p, .int n, .int most] ∧ Has G H ((p, o) :: l) ∧ WellO k o ∧ k < 10 ^ 6 ∧ 0 < n ∧ (n : Int) < 2 ^ 200 ∧ most ≤ 100 ∧
  ∀ (G' H' : Hp) (o' : HO) (x : V) (bs : List Bar), Ex G G' → Has G' H' ((p, o') :: l) → WellO (k + 501) o' → (∀ b ∈ bs, barOk n b) → bs.length ≤ most → At G' x (dBars bs) → Q x H'
def spWidth : Sp := fun vs H Q _ => ∃ (G : Hp) (l : List (Addr × HO)) (p : Addr) (o : HO) (k : Nat), vs = [.ref p] ∧ Has G H ((p, o) :: l) ∧ WellO k o ∧ k < 10 ^ 8 ∧
  ∀ (H' : Hp) (o' : HO) (n : Nat), Has G H' ((p, o') :: l) → WellO (k + 1) o' → 0 < n → n ≤ 6 → Q (.int n) H'
def spLotOf : Sp := fun vs H Q _ => ∃ (m : Int) (n : Nat), vs = [.int m, .int n] ∧ n ≤ 1000 ∧ ∀ (t : Addr) (H' : Hp), H t = none → Ex H H' → H' t = some (.tup ((lotOf m n).map V.int)) → Q (.ref t) H'
theorem lot_up (m : Int) (n : Nat) : lotOf m (n + 1) = lotOf m n ++ (if bitB m n = true then [(n : Int)] else []) := by
  unfold lotOf
  rw [List.range_succ, List.filter_append, List.map_append]
  cases h : bitB m n with
  | true => rw [List.filter_cons, if_pos h]; rfl
  | false => rw [List.filter_cons, if_neg (by rw [h]; decide)]; rfl
theorem lot_len (m : Int) (n : Nat) : (lotOf m n).length ≤ n := by
  unfold lotOf
  rw [List.length_map]
  exact Nat.le_trans (List.length_filter_le _ _) (by rw [List.length_range]; exact Nat.le_refl _)
theorem bit_eq (m : Int) (k : Nat) : decide (V.int (m / 2 ^ k % 2 ^ 1) = V.int 1) = bitB m k := by
  unfold bitB
  rw [Int.pow_one]
  by_cases h : m / 2 ^ k % 2 = 1
  · rw [h]
    rfl
  · rw [decide_eq_false h, decide_eq_false]
    intro e
    exact h (V.int.inj e)
def spMixed (K : PySem.W.Frag) : Sp := fun vs H Q _ => ∃ (G : Hp) (l : List (Addr × HO)) (p a : Addr) (o : HO) (k : Nat) (xs : List V), vs = [.ref p, .ref a] ∧ Has G H ((p, o) :: l) ∧ WellO k o ∧ k < 10 ^ 7 ∧ SqL K H a xs ∧ a ≠ p ∧ xs.length ≤ 1000 ∧
  ∀ (H' : Hp) (o' : HO) (t : Addr) (ys : List V), Has G H' ((t, .lst ys) :: (p, o') :: l) → WellO (k + 1000) o' → ys.Perm xs → Q (.ref t) H'
theorem perm_erase {α : Type} : ∀ {l : List α} {i : Nat} {x : α}, l[i]? = some x → (x :: l.eraseIdx i).Perm l
  | [], _, _, h => by cases h
  | y :: l, 0, x, h => by
    cases h
    exact List.Perm.refl _
  | y :: l, i + 1, x, h => (List.Perm.swap _ _ _).trans ((perm_erase (l := l) (i := i) h).cons y)
end
end TW
set_option Elab.async false
set_option linter.all false
set_option maxRecDepth 100000
set_option maxHeartbeats 4000000
namespace TW
open PySem PySem.Spec PyProof.Rows L2
theorem lay_ints : ∀ ns : List Int, PyData.canLayAll0 (ns.map .int) = true
  | [] => rfl
  | n :: ns => by
    show (PyData.canLay0 (.int n) && PyData.canLayAll0 (ns.map .int)) = true
    rw [lay_ints ns]
    rfl
theorem shaped_ints (ns : List Int) : SeqAt.shaped (.list (ns.map .int)) = true := by
  unfold SeqAt.shaped
  rw [Bool.and_eq_true, decide_eq_true_eq]
  refine ⟨lay_ints ns, ?_⟩
  have := depth_tupD ns
  unfold tupD at this
  have e : (PyData.list (ns.map .int)).depth = (PyData.tuple (ns.map .int)).depth := by simp [PyData.depth]
  rw [e]
  omega
theorem eqv_nil (ns : List Int) : PyData.eqv (.list (ns.map .int)) (.list []) = decide (ns = []) := by
  cases ns with
  | nil => rfl
  | cons n ns => simp [PyData.eqv, PyData.eqvAll]
def masksOk (n : Nat) (ms : List Int) : Prop := Up ms ∧ ms ≠ [] ∧ ∀ m ∈ ms, 0 ≤ m ∧ m < 2 ^ n
section
variable {P : Program} {w : World} {K : PySem.W.Frag} {mg : Str → Option Value} {base : Heap}
def spSomeMasks : Sp := fun vs H Q _ => ∃ (G : Hp) (l : List (Addr × HO)) (p : Addr) (o : HO) (k n : Nat), vs = [.ref p, .int n] ∧ Has G H ((p, o) :: l) ∧ WellO k o ∧ k < 10 ^ 5 ∧ 0 < n ∧ n ≤ 6 ∧
  ∀ (G' H' : Hp) (o' : HO) (t : Addr) (ms : List Int), Ex G G' → Has G' H' ((t, .lst (ms.map V.int)) :: (p, o') :: l) → WellO (k + 1000) o' → masksOk n ms → Q (.ref t) H'
theorem sort_up {ns ns' : List Int} (pm : ns'.Perm ns) (h : ns'.Pairwise (· ≤ ·)) (nd : ns.Nodup) : Up ns' := up_of_le h (pm.nodup_iff.mpr nd)
def rangeI (n : Nat) : List Int := (List.range n).map fun k : Nat => (k : Int)
theorem rangeI_up (n : Nat) : Up (rangeI n) := by
  unfold rangeI Up
  rw [List.pairwise_map]
  exact List.pairwise_lt_range.imp fun h => by omega
theorem rangeI_mem {n : Nat} {x : Int} : x ∈ rangeI n ↔ 0 ≤ x ∧ x < n := by
  unfold rangeI
  rw [List.mem_map]
  constructor
  · rintro ⟨k, hk, rfl⟩
    have := List.mem_range.mp hk
    omega
  · rintro ⟨h1, h2⟩
    exact ⟨x.toNat, List.mem_range.mpr (by omega), by omega⟩
theorem rangeI_get {n i : Nat} (h : i < n) : (rangeI n)[i]? = some (i : Int) := by
  unfold rangeI
  rw [List.getElem?_map, List.getElem?_range h]
  rfl
theorem pow_small {n : Nat} (h0 : 0 < n) (h : n ≤ 6) : ∃ b : Nat, (1 : Int) * 2 ^ n = (b : Int) ∧ b = 2 ^ n ∧ 0 < b ∧ b ≤ 64 := by
  have : n = 1 ∨ n = 2 ∨ n = 3 ∨ n = 4 ∨ n = 5 ∨ n = 6 := by omega
  rcases this with rfl | rfl | rfl | rfl | rfl | rfl
  · exact ⟨2, rfl, rfl, by decide, by decide⟩
  · exact ⟨4, rfl, rfl, by decide, by decide⟩
  · exact ⟨8, rfl, rfl, by decide, by decide⟩
  · exact ⟨16, rfl, rfl, by decide, by decide⟩
  · exact ⟨32, rfl, rfl, by decide, by decide⟩
  · exact ⟨64, rfl, rfl, by decide, by decide⟩
theorem shl_ok {n : Nat} (h : n ≤ 6) : CShl 1 (n : Int) := ⟨by omega, by
  have : Builtin.Int.intBits 1 = 1 := by decide +kernel
  rw [this]
  omega⟩
theorem masks_tail {n : Nat} {ns ns' : List Int} (pm : ns'.Perm ns) (h : ns'.Pairwise (· ≤ ·)) (nd : ns.Nodup) (ne : ns ≠ []) (hb : ∀ m ∈ ns, 0 ≤ m ∧ m < 2 ^ n) : masksOk n ns' :=
  ⟨sort_up pm h nd, fun e => ne (by rw [e] at pm; exact pm.symm.eq_nil), fun m hm => hb m (pm.mem_iff.mp hm)⟩
theorem PE.imp {X : Cx} {e : Expr} {t t' : TE} (h : PE X e t) (i : ∀ σ H Q, t' σ H Q → t σ H Q) : PE X e t' := ⟨fun pins s σ H Q I q => h.run pins s σ H Q I (i σ H Q q)⟩
theorem PT.imp {X : Cx} {e : Expr} {t t' : TT} (h : PT X e t) (i : ∀ σ H Q, t' σ H Q → t σ H Q) : PT X e t' := ⟨fun pins s σ H Q I q => h.run pins s σ H Q I (i σ H Q q)⟩
/-- 20 or 7 -/
def tMost : TE := fun σ H Q => ∃ i j : Int, σ[2]? = some (some (.int i)) ∧ σ[1]? = some (some (.int j)) ∧ ∀ d : Nat, 0 < d → d ≤ 20 → Q (.int d) H
/-- row == [] or manner == 4 and spare not in row -/
def tTest7 : TT := fun σ H Q => ∃ (i j : Int) (a : Addr) (ns : List Int), σ[2]? = some (some (.int i)) ∧ σ[6]? = some (some (.int j)) ∧ σ[3]? = some (some (.ref a)) ∧ H a = some (.lst (ns.map V.int)) ∧
  ∀ c H', Ex H H' → (c = true → j ∉ ns) → (c = false → ns ≠ []) → Q c H'
/-- manner > 3 and len(row) > 1 and a dip -/
def tTest8 : TT := fun σ H Q => ∃ (i : Int) (a p : Addr) (ns : List Int) (G : Hp) (l : List (Addr × HO)) (o : HO) (k : Nat), σ[2]? = some (some (.int i)) ∧ σ[3]? = some (some (.ref a)) ∧ σ[0]? = some (some (.ref p)) ∧ Has G H ((a, .lst (ns.map V.int)) :: (p, o) :: l) ∧ WellO k o ∧ k < 10 ^ 6 ∧
  ∀ c H' o', Has G H' ((a, .lst (ns.map V.int)) :: (p, o') :: l) → WellO (k + 1) o' → (c = true → 1 < ns.length) → Q c H'
theorem erase_map {α β : Type} (f : α → β) : ∀ (l : List α) (r : Nat), (l.map f).eraseIdx r = (l.eraseIdx r).map f
  | [], _ => rfl
  | _ :: _, 0 => rfl
  | x :: l, r + 1 => congrArg (f x :: ·) (erase_map f l r)
theorem PS.imp {X : Cx} {e : Stmt} {t t' : TS} (h : PS X e t) (i : ∀ D σ H, t' D σ H → t D σ H) : PS X e t' := ⟨fun pins s σ H D I q => h.run pins s σ H D I (i D σ H q)⟩
def tStmt7 : TS := fun D σ H => ∃ (i j : Int) (a : Addr) (ns : List Int) (G : Hp) (l : List (Addr × HO)), σ[2]? = some (some (.int i)) ∧ σ[6]? = some (some (.int j)) ∧ σ[3]? = some (some (.ref a)) ∧ Has G H ((a, .lst (ns.map V.int)) :: l) ∧ ns.length ≤ 1000 ∧
  ∀ H' ns', Has G H' ((a, .lst (ns'.map V.int)) :: l) → ns' ≠ [] → (ns' = ns ∨ (ns' = ns ++ [j] ∧ j ∉ ns)) → D.nx σ H'
def tStmt8 : TS := fun D σ H => ∃ (i : Int) (a p : Addr) (ns : List Int) (G : Hp) (l : List (Addr × HO)) (o : HO) (k : Nat), σ[2]? = some (some (.int i)) ∧ σ[3]? = some (some (.ref a)) ∧ σ[0]? = some (some (.ref p)) ∧ Has G H ((a, .lst (ns.map V.int)) :: (p, o) :: l) ∧ WellO k o ∧ k < 10 ^ 6 ∧ ns.length ≤ 1000 ∧
  ∀ H' o' ns', Has G H' ((a, .lst (ns'.map V.int)) :: (p, o') :: l) → WellO (k + 2) o' → (ns' = ns ∨ (1 < ns.length ∧ ∃ r, ns' = ns.eraseIdx r)) → D.nx σ H'
end
end TW
set_option Elab.async false
set_option linter.all false
set_option maxRecDepth 100000
set_option maxHeartbeats 4000000
/-! sets of tuples of ints, up to 76 of them: the table of 128 places takes no more -/
namespace TW
open PySem PySem.Spec PyProof.Rows L2
/-- the set at a with the rows L, at most 76 -/
structure SW (P : Program) (w : World) (h : Heap) (a : Addr) (L : List (Addr × List Int)) (es : Array (Int × Value)) (ep : Nat) (t : SetTable) : Prop where
  ob : ∃ o, h.get? a = some o ∧ o.ExactSet ∧ o.data = .set es ep t
  rows : es.toList = rowsOf P w L
  tab : TabOk t (L.map fun p => thash P w p.2)
  nd : (L.map (·.2)).Nodup
  tup : ∀ p ∈ L, IsT P w h p.2 p.1
  plain : t.plain = true
  led : w.params.followText "set-order" = true ∨ t.led = true
  room : L.length * 5 < t.mask * 3
  most : L.length ≤ 76
section
variable {P : Program} {w : World} {A : Around} {E : Value → Shared → Prop} {s : Shared} {a : Addr} {L : List (Addr × List Int)} {es : Array (Int × Value)} {ep : Nat} {t : SetTable}
theorem SW.few (R : SW P w s.heap a L es ep t) (h : L.length < 64) : SetTR P w s.heap a L es ep t := ⟨R.ob, R.rows, R.tab, R.nd, R.tup, R.plain, R.led, R.room, h⟩
theorem SW.of (R : SetTR P w s.heap a L es ep t) : SW P w s.heap a L es ep t := ⟨R.ob, R.rows, R.tab, R.nd, R.tup, R.plain, R.led, R.room, Nat.le_trans (Nat.le_of_lt R.few) (by decide)⟩
theorem SW.size (R : SW P w s.heap a L es ep t) : es.size = L.length := by
  have h := congrArg List.length R.rows
  simpa [rowsOf] using h
theorem SW.fitsW (B : SW P w s.heap a L es ep t) : t.fits es.size = true := by
  have p := B.tab.sz
  rw [List.length_map] at p
  have q := B.size
  have r := B.room
  unfold SetTable.fits SetTable.fill
  rw [B.tab.dm, Bool.and_eq_true, beq_iff_eq, decide_eq_true_eq]
  exact ⟨by omega, by show t.place.size + 0 ≤ t.mask; omega⟩
theorem SW.entryW (B : SW P w s.heap a L es ep t) {n : Nat} {q : Addr × List Int} (hq : L[n]? = some q) : es[n]? = some (thash P w q.2, Value.ref q.1) := by
  have e : es.toList[n]? = (rowsOf P w L)[n]? := by rw [B.rows]
  rw [Array.getElem?_toList] at e
  rw [e]
  show (L.map _)[n]? = _
  rw [List.getElem?_map, hq]
  rfl
/-- the places that a search passes -/
abbrev spot (P : Program) (w : World) (t : SetTable) (k : List Int) (c : Nat) : Nat := way t.mask (thash P w k) c
abbrev pbe (P : Program) (w : World) (t : SetTable) (k : List Int) (c : Nat) : SetTable.Probe := nth t.mask (runAt t.mask (SetTable.bits (thash P w k) % (t.mask + 1)) (SetTable.bits (thash P w k))) c
theorem pbe_go (k : List Int) (c q : Nat) : nth t.mask (pbe P w t k c) q = pbe P w t k (c + q) := (nth_add t.mask c _ q).symm
theorem pbe_spot (k : List Int) (c q : Nat) : (nth t.mask (pbe P w t k c) q).j = spot P w t k (c + q) := congrArg SetTable.Probe.j (pbe_go k c q)
theorem pbe_bare (k : List Int) (c : Nat) : (pbe P w t k c).dummy = none := by
  have all : ∀ (n : Nat) (p : SetTable.Probe), p.dummy = none → (nth t.mask p n).dummy = none := by
    intro n
    induction n with
    | zero => exact fun p h => h
    | succ n ih =>
      intro p h
      refine ih (adv t.mask p) ?_
      unfold adv
      split <;> exact h
  exact all c _ rfl
/-- a search among up to 76 tuples, from its c-th place on; N is the first free one -/
theorem seek (B : SW P w s.heap a L es ep t) {x : Addr} {k : List Int} (ix : IsT P w s.heap k x) (ru : A.units < cLine) {N : Nat} (tN : N < 10 * SetTable.turns t.mask) (nN : spot P w t k N ∉ t.place.toList) (bN : ∀ c, c < N → spot P w t k c ∈ t.place.toList)
    {Q : SetFound → Shared → Prop} (yes : k ∈ L.map (·.2) → Q (.there none) s) (no : k ∉ L.map (·.2) → Q (.free (spot P w t k N) false) s) (m : Nat) :
    ∀ (c : Nat) (pr : Option SetTable.Probe), pr.getD (t.probeStart (thash P w k)) = pbe P w t k c → c ≤ N → N - c < m → (∀ (n : Nat) q, L[n]? = some q → q.2 = k → ∃ d, c ≤ d ∧ d < N ∧ t.place.toList[n]? = some (spot P w t k d)) →
      wpAny (model P w) A (setSearchFrom a (.ref x) (thash P w k) true m pr) Q E s := by
  induction m with
  | zero => exact fun c pr _ _ lt _ => absurd lt (Nat.not_lt_zero _)
  | succ m ih =>
    intro c pr hp hc lt later
    obtain ⟨o, ho, _, dat⟩ := B.ob
    have notW : ¬ t.gaveWay = true := by
      unfold SetTable.gaveWay
      rw [mask_odd B.tab.mok]
      decide
    rw [setSearchFrom_succ]
    refine wpAny_bind (wpAny_setState_of ho dat B.fitsW ?_)
    dsimp only
    refine wp_if_neg notW ?_
    try refine wpAny_bind (wpAny_pure ?_)
    have told := go_spec t B.tab.ris B.tab.dm (fun i => (es[i]?.map (·.1)).getD 0) (thash P w k) (10 * SetTable.turns t.mask) (N - c) (pbe P w t k c) (pbe_bare k c) (by omega) (fun q hq => by rw [pbe_spot]; exact bN _ (by omega)) (by rw [pbe_spot, Nat.add_sub_cancel' hc]; exact nN)
    have at_ : ∀ (n : Nat) q, L[n]? = some q → (es[n]?.map (·.1)).getD 0 = thash P w q.2 := fun n q hq => by
      rw [B.entryW hq]
      rfl
    rcases told with ⟨q, i, hq, hi, hh, free, found⟩ | ⟨free, found⟩
    · rw [pbe_spot, pbe_go] at found
      rw [hp, show t.probe (fun i => (es[i]?.map (·.1)).getD 0) (thash P w k) (pbe P w t k c) = _ from found]
      dsimp only
      rw [pbe_spot] at hi
      obtain ⟨r, hr⟩ : ∃ r, L[i]? = some r := by
        have l1 := (List.getElem?_eq_some_iff.mp hi).1
        have l2 := B.tab.sz
        rw [List.length_map] at l2
        rw [Array.length_toList] at l1
        exact ⟨_, List.getElem?_eq_getElem (by omega)⟩
      have mem := List.mem_of_getElem? hr
      have tr := B.tup r mem
      have onward : wpAny (model P w) A (searchRest a (.ref x) (thash P w k) true m es t (spot P w t k (c + q)) i (pbe P w t k (c + (q + 1)))) Q E s := by
        unfold searchRest
        rw [B.entryW hr]
        dsimp only
        refine wpAny_bind (wpAny_holding (wpAny_eqBool_tuple ru tr ix ?_))
        refine wpAny_bind (wpAny_setState_of ho dat B.fitsW ?_)
        dsimp only
        by_cases same : r.2 = k
        · exact wp_if_pos (by simp [same]) (wpAny_pure (yes (List.mem_map.mpr ⟨r, mem, same⟩)))
        · refine wp_if_neg (by simp [same]) ?_
          try refine wpAny_bind (wpAny_pure ?_)
          have sl : t.slot (spot P w t k (c + q)) = .live i := slot_live B.tab.ris hi
          rw [sameMem]
          dsimp only
          simp only [if_true, sl, B.entryW hr]
          refine wpAny_bind (wpAny_isSame_ref_self (wpAny_bind (wpAny_pure ?_)))
          simp only [if_true]
          refine wp_if_neg (by simp [same]) ?_
          refine ih (c + (q + 1)) _ rfl (by omega) (by omega) fun n0 r0 h0 k0 => ?_
          obtain ⟨d, d1, d2, d3⟩ := later n0 r0 h0 k0
          refine ⟨d, ?_, d2, d3⟩
          have h1 : ¬ d < c + q := fun z => free (d - c) n0 (by omega) (by rw [pbe_spot, Nat.add_sub_cancel' d1]; exact d3) ((at_ n0 r0 h0).trans (by rw [k0]))
          have h2 : d ≠ c + q := fun z => by
            rw [z] at d3
            have sl0 := slot_live B.tab.ris d3
            rw [sl] at sl0
            injection sl0 with sl0
            rw [← sl0, hr] at h0
            cases h0
            exact same k0
          omega
      by_cases ld : t.led = true
      · refine wp_if_neg (by simp [ld]) ?_
        try refine wpAny_bind (wpAny_pure ?_)
        exact onward
      · refine wp_if_pos (by simp [ld]) (wpAny_bind (seen_tup ix (fun y hy => ?_) ?_))
        · obtain ⟨e, he, rfl⟩ := List.mem_map.mp hy
          have he1 : e ∈ es ∧ e.1 = thash P w k := by simpa using he
          have he2 : e ∈ es.toList := by simpa using he1.1
          rw [B.rows] at he2
          obtain ⟨p2, hp2, rfl⟩ := List.mem_map.mp he2
          exact ⟨p2.2, p2.1, rfl, B.tup p2 hp2⟩
        · refine wp_if_neg (by decide) ?_
          try refine wpAny_bind (wpAny_pure ?_)
          exact onward
    · rw [pbe_spot, Nat.add_sub_cancel' hc] at found
      rw [hp, show t.probe (fun i => (es[i]?.map (·.1)).getD 0) (thash P w k) (pbe P w t k c) = _ from found]
      dsimp only
      refine wpAny_pure (no fun hm => ?_)
      obtain ⟨r0, h0, k0⟩ := List.mem_map.mp hm
      obtain ⟨n0, hn0⟩ := List.mem_iff_getElem?.mp h0
      obtain ⟨d, d1, d2, d3⟩ := later n0 r0 hn0 k0
      exact free (d - c) n0 (by omega) (by rw [pbe_spot, Nat.add_sub_cancel' d1]; exact d3) ((at_ n0 r0 hn0).trans (by rw [k0]))
theorem seekW (B : SW P w s.heap a L es ep t) {x : Addr} {k : List Int} (ix : IsT P w s.heap k x) (ru : A.units < cLine) {Q : SetFound → Shared → Prop} (yes : k ∈ L.map (·.2) → Q (.there none) s)
    (no : ∀ N, k ∉ L.map (·.2) → spot P w t k N ∉ t.place.toList → (∀ c, c < N → spot P w t k c ∈ t.place.toList) → Q (.free (spot P w t k N) false) s) : wpAny (model P w) A (setSearch a (.ref x) (thash P w k) true) Q E s := by
  have r := B.room
  obtain ⟨N, tN, nN, bN⟩ := B.tab.first (by rw [List.length_map]; omega) (thash P w k)
  have few : N < 100000 := by
    have : 10 * SetTable.turns t.mask ≤ 1420 := by
      unfold SetTable.turns
      rcases B.tab.mok with e | e | e <;> omega
    omega
  unfold setSearch
  refine seek B ix ru tN nN bN yes (fun h => no N h nN bN) 100000 0 none rfl (Nat.zero_le _) (by omega) fun n q hq hk => ?_
  have h1 : (L.map fun p => thash P w p.2)[n]? = some (thash P w k) := by rw [List.getElem?_map, hq, ← hk]; rfl
  have h2 : n < t.place.toList.length := by
    have l1 := (List.getElem?_eq_some_iff.mp hq).1
    have l2 := B.tab.sz
    rw [List.length_map] at l2
    rw [Array.length_toList]
    omega
  have h3 := List.getElem?_eq_getElem h2
  obtain ⟨d, d1, d2⟩ := B.tab.before nN h1 h3
  exact ⟨d, Nat.zero_le _, d1, h3.trans (congrArg some d2.symm)⟩
/-- the 64th, and more -/
theorem add_last (R : SW P w s.heap a L es ep t) {x : Addr} {k : List Int} (hx : IsT P w s.heap k x) (hu : A.units < cLine) (full : 63 ≤ L.length) (lt : L.length < 76) {Q : Bool → Shared → Prop}
    (go : ∀ b g L' es' ep' t', Heap.SameBut a s.heap g → SW P w g a L' es' ep' t' → (k ∈ L.map (·.2) → L' = L) → (k ∉ L.map (·.2) → L'.Perm ((x, k) :: L)) → Q b { s with heap := g }) :
    wpAny (model P w) A (setAddHashed a (.ref x) (thash P w k)) Q E s := by
  obtain ⟨o, ho, exact_, dat⟩ := R.ob
  have z1 := R.size
  have mask_eq : t.mask = 127 := by
    have := R.room
    rcases R.tab.mok with e | e | e <;> omega
  unfold setAddHashed
  rw [show (100000 : Nat) = Nat.succ 99999 from rfl, setAddHashedIn_succ]
  refine wpAny_holding (wpAny_bind (wpAny_setState_of ho dat R.fitsW ?_))
  dsimp only
  refine wp_if_neg (by simp [byScan, Value.scannable]) ?_
  try refine wpAny_bind (wpAny_pure ?_)
  refine wpAny_bind (seekW R hx hu (fun there => wpAny_pure (go false s.heap L es ep t (.refl a s.heap) R (fun _ => rfl) fun z => absurd there z)) fun c absent free busy => ?_)
  dsimp only
  refine wpAny_bind (wpAny_setState_of ho dat R.fitsW ?_)
  dsimp only
  obtain ⟨u1, u2, u3, u4, u5, u6, u7, u8, u9⟩ := R.tab.put free busy
  have plain1 : (t.put (way t.mask (thash P w k) c)).1.plain = true := u6.trans R.plain
  generalize eqp : t.put (way t.mask (thash P w k) c) = tp at u1 u3 u4 u5 u6 u7 u8 u9 plain1 ⊢
  obtain ⟨t1, at_⟩ := tp
  dsimp only at u1 u3 u4 u5 u6 u7 u8 u9 plain1 ⊢
  subst u1
  first
    | refine wp_if_pos plain1 (wpAny_bind (hashBy_tup hx ?_))
    | refine wpAny_bind (wp_if_pos plain1 (hashBy_tup hx ?_))
  simp only [if_true]
  have rows1 : (SetTable.insertAt es (SetTable.below t.place (way t.mask (thash P w k) c)) (thash P w k, Value.ref x)).toList = rowsOf P w (L.take (SetTable.below t.place (way t.mask (thash P w k) c)) ++ (x, k) :: L.drop (SetTable.below t.place (way t.mask (thash P w k) c))) :=
    (SetTable.toList_insertAt _ _ _).trans (by rw [rows_put, R.rows])
  generalize SetTable.below t.place (way t.mask (thash P w k) c) = at_ at u2 u3 rows1 ⊢
  have pm : (L.take at_ ++ (x, k) :: L.drop at_).Perm ((x, k) :: L) := L2.put_perm L at_ (x, k)
  rw [← List.map_take, ← List.map_drop, ← List.map_cons (f := fun p : Addr × List Int => thash P w p.2) (a := (x, k)), ← List.map_append] at u3
  generalize L.take at_ ++ (x, k) :: L.drop at_ = L1 at pm u3 rows1
  have len1 : L1.length = L.length + 1 := by rw [pm.length_eq, List.length_cons]
  have size1 : (SetTable.insertAt es at_ (thash P w k, Value.ref x)).size = L.length + 1 := by
    have h := congrArg List.length rows1
    rw [Array.length_toList] at h
    rw [h]
    simpa [rowsOf] using len1
  generalize SetTable.insertAt es at_ (thash P w k, Value.ref x) = es1 at rows1 size1 ⊢
  refine wpAny_bind (wpAny_storeSet_of ho dat ?_ (by rw [size1, sizeLine_eq]; omega))
  have sb : Heap.SameBut a s.heap (s.heap.update a (Obj.putSet es1 t1)) := Heap.SameBut.update ..
  have ho1 := store_at (es' := es1) (t' := t1) ho dat
  generalize s.heap.update a (Obj.putSet es1 t1) = g at sb ho1 ⊢
  have notFull : ¬ t1.tooFull = true := by
    unfold SetTable.tooFull
    rw [decide_eq_true_eq, u9, List.length_map, u4]
    omega
  first
    | refine wp_if_neg (by simp [notFull]) ?_
    | (refine wpAny_bind (wp_if_neg (by simp [notFull]) (wpAny_pure ?_)))
  refine wpAny_pure (go true g L1 es1 (ep + 1) t1 sb ?_ (fun z => absurd z absent) fun _ => pm)
  refine ⟨⟨_, ho1, ⟨exact_.1, exact_.2.1, exact_.2.2⟩, rfl⟩, rows1, u3, ?_, fun p hp => ?_, plain1, by rw [u5]; exact R.led, by rw [len1, u4]; omega, by omega⟩
  · rw [(pm.map (·.2)).nodup_iff, List.map_cons, List.nodup_cons]
    exact ⟨absent, R.nd⟩
  · rcases List.mem_cons.mp (pm.mem_iff.mp hp) with e | e
    · rw [e]
      exact isT_same hx ho dat sb
    · exact isT_same (R.tup p e) ho dat sb
/-- one more, where there are fewer than 76 -/
theorem add_w (R : SW P w s.heap a L es ep t) {x : Addr} {k : List Int} (hx : IsT P w s.heap k x) (hu : A.units < cLine) (lt : L.length < 76) {Q : Bool → Shared → Prop}
    (go : ∀ b g L' es' ep' t', Heap.SameBut a s.heap g → SW P w g a L' es' ep' t' → (k ∈ L.map (·.2) → L' = L) → (k ∉ L.map (·.2) → L'.Perm ((x, k) :: L)) → Q b { s with heap := g }) :
    wpAny (model P w) A (setAddHashed a (.ref x) (thash P w k)) Q E s := by
  by_cases c : L.length + 1 < 64
  · exact add_at (R.few (by omega)) hx hu c fun b g L' es' ep' t' sb R' c1 c2 => go b g L' es' ep' t' sb (SW.of (s := { s with heap := g }) R') c1 c2
  · exact add_last R hx hu (by omega) lt go
end
end TW
set_option Elab.async false
set_option linter.all false
set_option maxRecDepth 100000
set_option maxHeartbeats 4000000
/-! set(xs) and sorted(set) of lots -/
namespace TW
open PySem PySem.Spec PyProof.Rows L2
section
variable {P : Program} {w : World} {A : Around} {E : Value → Shared → Prop} {s : Shared}
theorem SW.keep {h h' : Heap} {a : Addr} {L : List (Addr × List Int)} {es : Array (Int × Value)} {ep : Nat} {t : SetTable} (R : SW P w h a L es ep t) (ka : ∀ o, h.get? a = some o → h'.get? a = some o) (kt : ∀ p ∈ L, IsT P w h' p.2 p.1) : SW P w h' a L es ep t := by
  obtain ⟨o, ho, r⟩ := R.ob
  exact ⟨⟨o, ka o ho, r⟩, R.rows, R.tab, R.nd, kt, R.plain, R.led, R.room, R.most⟩
/-- the loop that adds the items one by one -/
theorem set_loop {I : Addr} {fp wr : List Addr} {G : Array GenState → Array GenState → Prop} {n : Nat} {Pv : Nat → Value → Prop} {St : Nat → Shared → Prop} {R : Result → Shared → Prop}
    (W : WalksS P w A.in1 I fp wr G n Pv St) (S : Addr) (sf : S ∉ fp) (ks : List (Addr × List Int)) (hn : n = ks.length) (most : ks.length ≤ 76) (vals_ : ∀ i v, Pv i v → ∃ p, ks[i]? = some p ∧ v = .ref p.1)
    (h0 : Heap) (tk0 : ∀ p ∈ ks, IsT P w h0 p.2 p.1) (S0 : h0.get? S = none) (w0 : ∀ b ∈ wr, h0.get? b = none) (hu : A.in1.units < cLine) :
    ∀ (m i : Nat) (s : Shared), n - i = m → i ≤ n → St i s → (∀ b o, h0.get? b = some o → s.heap.get? b = some o) → (∃ L es ep t, SW P w s.heap S L es ep t ∧ Got ks i L) →
      (∀ s' L es ep t, Moved (S :: wr) G s s' → SW P w s'.heap S L es ep t → Got ks n L → (∀ b o, h0.get? b = some o → s'.heap.get? b = some o) → R (.ok (.ret .none)) s') →
      codeAny (model P w) A (.builtin "set.update.loop" ⟨[.ref S, .ref I], []⟩) R s := by
  have sw : S ∉ wr := fun h => sf (W.sub _ h)
  have wider : ∀ b ∈ wr, b ∈ S :: wr := fun b hb => List.mem_cons_of_mem _ hb
  have over : ∀ {s s' : Shared}, Moved wr G s s' → (∀ b o, h0.get? b = some o → s.heap.get? b = some o) → ∀ b o, h0.get? b = some o → s'.heap.get? b = some o := fun mv kp b o e =>
    mv.heap b o (fun hb => by rw [w0 b hb] at e; cases e) (kp b o e)
  intro m
  induction m with
  | zero =>
    intro i s hm hi st kp ⟨L, es, ep, t, hS, g⟩ fin
    obtain rfl : i = n := by omega
    refine codeAny_builtin F.entry_set_update_loop ?_
    rw [Around.under_plainId F.plain_set_update_loop _]
    change wpAny _ A.in1 (pyNext (.ref I) >>= _) _ _ s
    refine wpAny_bind (W.done s _ _ st fun s' mv => ?_)
    change wpAny _ A.in1 (ret Value.none) _ _ s'
    have kp' := over mv kp
    exact wpAny_pure (fin s' L es ep t (mv.mono wider) (hS.keep (fun o e => mv.heap S o sw e) fun p hp => isT_keep (tk0 p (List.mem_of_mem_take (g.sub p hp))) kp') g kp')
  | succ m ih =>
    intro i s hm hi st kp ⟨L, es, ep, t, hS, g⟩ fin
    have lt : i < n := by omega
    refine codeAny_builtin F.entry_set_update_loop ?_
    rw [Around.under_plainId F.plain_set_update_loop _]
    change wpAny _ A.in1 (pyNext (.ref I) >>= _) _ _ s
    refine wpAny_bind (W.item i s _ _ lt st fun v s' pv st' mv => ?_)
    obtain ⟨p, hp, rfl⟩ := vals_ i v pv
    have kp' := over mv kp
    have hS' : SW P w s'.heap S L es ep t := hS.keep (fun o e => mv.heap S o sw e) fun q hq => isT_keep (tk0 q (List.mem_of_mem_take (g.sub q hq))) kp'
    have hx : IsT P w s'.heap p.2 p.1 := isT_keep (tk0 p (List.mem_of_getElem? hp)) kp'
    change wpAny _ A.in1 (holding [Value.ref p.1] (setAdd S (.ref p.1)) >>= _) _ _ s'
    refine wpAny_bind (wpAny_holding ?_)
    unfold setAdd
    refine wpAny_holding (wpAny_bind (wpAny_pyHash_tuple hu hx ?_))
    have gl := g.len
    refine add_w (s := { s' with toks := s'.toks + (p.2.length + 1) }) hS' hx hu (by omega) fun b h' L' es' ep' t' sb hS2 c1 c2 => ?_
    have g' : Got ks (i + 1) L' := by
      by_cases c : p.2 ∈ L.map (·.2)
      · rw [c1 c]
        exact g.same hp c
      · exact g.more hp (c2 c)
    have kp2 : ∀ b o, h0.get? b = some o → h'.get? b = some o := fun b o e => (sb.2 b (fun z => by rw [z, S0] at e; cases e)).trans (kp' b o e)
    refine wpAny_pure ⟨plainId_quiet F.plain_set_update_loop _, ih (i + 1) _ (by omega) lt (W.frame _ s' _ _ st' (Nat.le_add_right _ _) fun b hb o e => ?_) kp2 ⟨L', es', ep', t', hS2, g'⟩ fun s'' L2 es2 ep2 t2 mv2 hS3 g3 kp3 => ?_⟩
    · exact (sb.2 b (fun z : b = S => sf (z ▸ hb))).trans e
    · refine fin s'' L2 es2 ep2 t2 (Moved.trans W.gtrans ((mv.mono wider).then_heap (Nat.le_add_right _ _) fun b o hb e => ?_) mv2) hS3 g3 kp3
      exact (sb.2 b (fun z : b = S => hb (z ▸ List.mem_cons_self))).trans e
theorem set_of_lots {l : Addr} {its : Array Value} (ks : List (Addr × List Int)) {Q : Value → Shared → Prop} (noh : A.handled = none) (il : s.heap.IsList l its) (ii : its.toList = ks.map fun p => Value.ref p.1)
    (tk0 : ∀ p ∈ ks, IsT P w s.heap p.2 p.1) (most : ks.length ≤ 76) (hu : A.units + 3 < cLine)
    (go : ∀ (g : Heap) (tk : Nat) L es ep t, SW P w g s.heap.objs.size L es ep t → Got ks ks.length L → (∀ b o, s.heap.get? b = some o → g.get? b = some o) → Q (.ref s.heap.objs.size) { s with heap := g, toks := tk }) :
    wpAny (model P w) A (call (.type "set") [.ref l]) Q E s := by
  have size_eq : its.size = ks.length := by
    have q := congrArg List.length ii
    simpa using q
  have C := F.called_set
  obtain ⟨c, tl, mro⟩ := C.mro
  have made_ := C.made
  have sub_ := C.sub
  have nt := C.notType
  have cc := C.canCreate
  have tc1 := F.typeCall_set_1 (.ref l)
  refine wpAny_call (codeAny_of_tree ?_)
  change wpAny _ _ (callAny (Value.type "set") ⟨[.ref l], []⟩) _ _ _
  refine wpAny_pure ⟨Code.quiet_builtin _ (by decide +kernel), codeAny_builtin F.entry_type_call ?_⟩
  rw [Around.under_plain (weight_type_call_type "set" _ _) rfl]
  repeat (any_goals (first | assumption | wp_step))
  refine codeAny_mono (code_set_led1 (.ref l) (E := E) (Q₁ := fun ob t => ob = .ref s.heap.objs.size ∧ t = { s with heap := s.heap.push (fresh0 w) }) ⟨rfl, rfl⟩) fun r t hr => ?_
  match r, hr with
  | .error e, hr => exact hr
  | .ok (.ret ob), hr =>
    obtain ⟨rfl, rfl⟩ := hr
    have at0 : (s.heap.push (fresh0 w)).get? s.heap.objs.size = some (fresh0 w) := Heap.get?_push_size _ rfl
    have ty0 : Shared.TypeIs { s with heap := s.heap.push (fresh0 w) } (.ref s.heap.objs.size) "set" := ⟨_, at0, rfl⟩
    have look_ := C.init.lookup
    have bind_ := C.init.bind (.ref s.heap.objs.size)
    repeat (any_goals (first | assumption | wp_step))
    refine codeAny_mono (codeAny_call_builtin (R := wants (fun r t => r = .none ∧ ∃ g tk L es ep tt, t = { s with heap := g, toks := tk } ∧ SW P w g s.heap.objs.size L es ep tt ∧ Got ks ks.length L ∧ (∀ b o, s.heap.get? b = some o → g.get? b = some o)) E) C.init.plain F.entry_set_init (check_set_init_1 ty0 ?_)) fun r2 t2 hr2 => ?_
    · obtain ⟨⟨lc, ld, ldat, lsl⟩, lat, e1, nl, e2⟩ := il
      simp only at e1 e2
      subst e1
      subst e2
      have lat1 : (s.heap.push (fresh0 w)).get? l = some { cls := .type "list", dict := ld, data := .seq its nl, slots := lsl } := Heap.get?_push_of_some _ lat
      have k1 := F.sub_list_set
      have k2 := F.sub_list_frozenset
      have k3 : (Value.type "list" == Value.type "dict") = false := by decide
      have il1 : (s.heap.push (fresh0 w)).IsList l its := ⟨_, lat1, rfl, nl, rfl⟩
      unfold Builtin.«set.__init__» noKeywords Builtin.Frozenset.updateFrom
      generalize ePI : pyIter = PI
      wp_walk
      subst ePI
      refine wpAny_pyIter_list il1 (wpAny_bind (wpAny_runValue ?_))
      have ll := Heap.lt_size lat
      have sz1 : (s.heap.push (fresh0 w)).objs.size = s.heap.objs.size + 1 := Heap.size_push ..
      have noh3 : A.in1.in1.in1.handled = none := by simp [noh]
      have nI : l ≠ (s.heap.push (fresh0 w)).objs.size := sz1 ▸ Nat.ne_of_lt (Nat.lt_succ_of_lt ll)
      have nS : s.heap.objs.size ∉ [(s.heap.push (fresh0 w)).objs.size, l] := by
        simp only [List.mem_cons, List.not_mem_nil, or_false, not_or]
        exact ⟨sz1 ▸ Nat.ne_of_lt (Nat.lt_succ_self _), Nat.ne_of_gt ll⟩
      have vals_ : ∀ (i : Nat) (v : Value), its[i]? = some v → ∃ p, ks[i]? = some p ∧ v = .ref p.1 := fun i v hv => by
        have q : its.toList[i]? = some v := by simpa using hv
        rw [ii, List.getElem?_map] at q
        cases hq : ks[i]? with
        | none => rw [hq] at q; cases q
        | some p => rw [hq] at q; exact ⟨p, rfl, (Option.some.inj q).symm⟩
      have beyond : ∀ b, s.heap.objs.size ≤ b → s.heap.get? b = none := fun b hb => by
        cases q : s.heap.get? b with
        | none => rfl
        | some o => exact absurd (Nat.lt_of_lt_of_le (Heap.lt_size q) hb) (Nat.lt_irrefl _)
      refine set_loop ((Walks.list noh3 _ l nI its).toS) s.heap.objs.size nS ks size_eq most vals_ s.heap tk0 (beyond _ (Nat.le_refl _)) (fun b hb => beyond b ?_) hu (its.size - 0) 0 _ (by omega) (Nat.zero_le _)
        ⟨⟨_, Heap.get?_push_size _ rfl, rfl, rfl⟩, il1.push _⟩ (fun b o e => Heap.get?_push_of_some _ (Heap.get?_push_of_some _ e)) ⟨[], #[], 0, _, SW.of (s := { s with heap := _ }) (setTR_fresh (Heap.get?_push_of_some _ at0)), Got.zero ks⟩ ?_
      · rw [List.mem_singleton.mp hb, sz1]
        exact Nat.le_succ _
      · rintro ⟨g, g2, d2, tk, os2⟩ L es ep tt mv R2 got kp
        have z1 : g2 = s.gens := mv.gens
        have z2 : d2 = s.drawn := mv.drawn
        have z3 : os2 = s.os := mv.os
        subst z1 z2 z3
        show wpAny _ _ _ _ _ _
        refine wpAny_pure ?_
        show wpAny _ _ (ret Value.none) _ _ _
        rw [size_eq] at got
        exact wpAny_pure ⟨rfl, g, tk, L, es, ep, tt, rfl, R2, got, kp⟩
    · match r2, hr2 with
      | .error e, hr2 => exact hr2
      | .ok (.ret r3), hr2 =>
        obtain ⟨rfl, g, tk, L, es, ep, tt, rfl, R2, got, kp⟩ := hr2
        repeat (any_goals (first | assumption | wp_step))
        exact go _ _ _ _ _ _ R2 got kp
      | .ok .next, hr2 => exact hr2.elim
      | .ok .brk, hr2 => exact hr2.elim
      | .ok .cont, hr2 => exact hr2.elim
  | .ok .next, hr => exact hr.elim
  | .ok .brk, hr => exact hr.elim
  | .ok .cont, hr => exact hr.elim
end
end TW
set_option Elab.async false
set_option linter.all false
set_option maxRecDepth 100000
set_option maxHeartbeats 4000000
namespace TW
open PySem PySem.Spec PyProof.Rows L2
open PySem.W (EachIs AllAlike Sortable dataLt dataLe dataKind)
/-- as SW, the tuples themselves left out -/
def SW0 (P : Program) (w : World) (h : Heap) (a : Addr) (L : List (Addr × List Int)) : Prop :=
  ∃ (es : Array (Int × Value)) (ep : Nat) (t : SetTable), (∃ o, h.get? a = some o ∧ o.ExactSet ∧ o.data = .set es ep t) ∧ es.toList = rowsOf P w L ∧ TabOk t (L.map fun p => thash P w p.2) ∧ (L.map (·.2)).Nodup ∧ t.plain = true ∧
    (w.params.followText "set-order" = true ∨ t.led = true) ∧ L.length * 5 < t.mask * 3 ∧ L.length ≤ 76
def LotSet (P : Program) (w : World) (a : Addr) (L : List (Addr × List Int)) : HO := .ext fun h => SW0 P w h a L
theorem SW.bare {P : Program} {w : World} {h : Heap} {a : Addr} {L : List (Addr × List Int)} {es : Array (Int × Value)} {ep : Nat} {t : SetTable} (R : SW P w h a L es ep t) : SW0 P w h a L :=
  ⟨es, ep, t, R.ob, R.rows, R.tab, R.nd, R.plain, R.led, R.room, R.most⟩
theorem lotSet_new {P : Program} {w : World} {H : Hp} {h : Heap} {a : Addr} {L : List (Addr × List Int)} (R : SW0 P w h a L) : ObjOk P w H h a (LotSet P w a L) := by
  have ⟨es, ep, t, ⟨o, ho, r⟩, q⟩ := R
  refine ⟨R, ⟨o, ho⟩, fun h1 h2 p k => ?_⟩
  obtain ⟨es', ep', t', ⟨o', ho', r'⟩, q'⟩ := p
  exact ⟨es', ep', t', ⟨o', k o' ho', r'⟩, q'⟩
theorem dups_of {ks L : List (Addr × List Int)} (g : Got ks ks.length L) : (∀ p ∈ L, p ∈ ks) ∧ ∀ p ∈ ks, p.2 ∈ L.map (·.2) :=
  ⟨fun p hp => List.mem_of_mem_take (g.sub p hp), fun p hp => g.all p (by rw [List.take_length]; exact hp)⟩
section
variable {X : Cx} {K : PySem.W.Frag} {P : Program} {w : World}
/-- set(xs), xs a list of up to 76 tuples of ints -/
def rSetL2 (K : PySem.W.Frag) (P : Program) (w : World) : List V → Hp → VK → Prop := fun xs H Q => ∃ (l : Addr) (ks : List (Addr × List Int)), xs = [V.ref l] ∧ SqL K H l (ks.map fun p => V.ref p.1) ∧ (∀ p ∈ ks, SqT K H p.1 (p.2.map V.int)) ∧ ks.length ≤ 76 ∧
  ∀ a L, H a = none → (∀ p ∈ L, p ∈ ks) → (∀ p ∈ ks, p.2 ∈ L.map (·.2)) → (L.map (·.2)).Nodup → Q (.ref a) (upd H a (LotSet P w a L))
theorem cr_setL (hc : X.calm = true) (hu : X.A.units + 64 < cLine) (hK : X.K = K := by rfl) (hP : X.prog = P := by rfl) (hw : X.w = w := by rfl) : CallR X (.type "set") (rSetL2 K P w) := by
  subst hK hP hw
  intro pins s σ H xs us Q I r h
  obtain ⟨l, ks, rfl, hl, hk, hf, q⟩ := h
  rw [Vals.ref1 r]
  obtain ⟨its, rv, pl, hz⟩ := I.list hl
  have hn : H s.heap.objs.size = none := I.hok.fresh (Nat.le_refl _)
  refine set_of_lots (P := X.prog) (w := X.w) ks (I.ok.hd hc) pl.isList (by simpa using refs_of_vals rv) (fun p hp => I.isT (hk p hp)) hf (by omega) fun g tk L es ep t R got kp => ?_
  obtain ⟨d1, d2⟩ := dups_of got
  exact ⟨.ref s.heap.objs.size, upd H s.heap.objs.size (LotSet X.prog X.w s.heap.objs.size L), I.laid (t' := tk) kp (Nat.le_refl _) (lotSet_new R.bare), rfl, q _ L hn d1 d2 R.nd⟩
/-- sorted(a set of tuples of ints) -/
def rSortS (K : PySem.W.Frag) (P : Program) (w : World) : List V → Hp → VK → Prop := fun vs H Q => ∃ (a : Addr) (L : List (Addr × List Int)), vs = [V.ref a] ∧ H a = some (LotSet P w a L) ∧ (∀ p ∈ L, SqT K H p.1 (p.2.map V.int)) ∧
  ∀ (L' : List (Addr × List Int)) (p : Addr), L'.Perm L → L'.Pairwise (fun x y => HT.lexLt y.2 x.2 = false) → H p = none → Q (.ref p) (upd H p (.lst (L'.map fun q => V.ref q.1)))
end
section
variable {P : Program} {w : World} {A : Around} {E : Value → Shared → Prop} {s : Shared}
theorem each_reads : ∀ {vs : List Value} {L : List (Addr × List Int)} {h : Heap}, vs = L.map (fun q => Value.ref q.1) → (∀ q ∈ L, IsT P w h q.2 q.1) → EachIs (fun v (q : Addr × List Int) => ∃ as, Reads h v (tupD q.2) as) vs L
  | [], [], _, _, _ => .nil
  | [], _ :: _, _, e, _ => by cases e
  | _ :: _, [], _, e, _ => by cases e
  | v :: vs, q :: L, h, e, ht => by
    rw [List.map_cons, List.cons.injEq] at e
    obtain ⟨rfl, e2⟩ := e
    refine .cons ?_ (each_reads e2 fun r hr => ht r (List.mem_cons_of_mem _ hr))
    obtain ⟨o, items, n, ho, hc, hd, hi⟩ := ht q List.mem_cons_self
    have rd : ∀ {k : List Int} {us : List Value}, ItemsAre (intKind P w) k us → ∃ as, ReadsAll h us (k.map .int) as := by
      intro k us hi
      induction hi with
      | nil => exact ⟨_, .nil⟩
      | @cons k0 v ks vs h1 _ ih =>
        obtain ⟨t, rfl⟩ := Value.isInt_shape h1
        obtain ⟨as, r⟩ := ih
        exact ⟨_, .cons (.int _ _) r⟩
    obtain ⟨as, r⟩ := rd hi
    exact ⟨_, .tuple ho hc hd r⟩
theorem perm_map_ex {α β : Type} [DecidableEq α] {f : α → β} : ∀ {vs : List β} {L : List α}, vs.Perm (L.map f) → ∃ L1 : List α, L1.Perm L ∧ vs = L1.map f
  | [], L, h => by
    have e : L.map f = [] := h.symm.eq_nil
    have e2 : L = [] := by simpa using e
    exact ⟨[], by rw [e2], rfl⟩
  | v :: vs, L, h => by
    obtain ⟨q, hq, e⟩ := List.mem_map.mp (h.mem_iff.mp List.mem_cons_self)
    have p1 := List.perm_cons_erase hq
    have p2 : (v :: vs).Perm (f q :: (L.erase q).map f) := h.trans (p1.map f)
    rw [e] at p2
    obtain ⟨L1, h1, h2⟩ := perm_map_ex p2.cons_inv
    exact ⟨q :: L1, (h1.cons q).trans p1.symm, by rw [List.map_cons, e, h2]⟩
theorem lexLe_pw (bs : List (Addr × List Int)) : (bs.mergeSort (dataLe false (fun q => tupD q.2))).Pairwise (fun x y => HT.lexLt y.2 x.2 = false) := by
  have T := PySem.W.sortLe_total (PyProof.Rows.listOrd PyProof.Rows.itemOrd) false (fun b : Addr × List Int => PySem.W.keyToks (tupD b.2))
  have e : dataLe false (fun b : Addr × List Int => tupD b.2) = PySem.W.sortLe (PyProof.Rows.listOrd PyProof.Rows.itemOrd) false (fun b : Addr × List Int => PySem.W.keyToks (tupD b.2)) := rfl
  have h := List.pairwise_mergeSort (le := dataLe false (fun b : Addr × List Int => tupD b.2)) (fun a b c h1 h2 => by rw [e] at h1 h2 ⊢; exact T.trans a b c h1 h2) (fun a b => by rw [e]; rcases T.total a b with h | h <;> simp [h]) bs
  refine h.imp fun {x y} h => ?_
  have h' : (!dataLt (tupD y.2) (tupD x.2)) = true := h
  rw [Bool.not_eq_true', lt_tupD] at h'
  exact h'
theorem sorted_lotset {a : Addr} {L : List (Addr × List Int)} {es : Array (Int × Value)} {ep : Nat} {t : SetTable} {Q : Value → Shared → Prop} (R : SW P w s.heap a L es ep t) (noh : A.handled = none) (hu : A.units + 64 < cLine)
    (go : ∀ s' p (out : List Value) (c : Nat) (L' : List (Addr × List Int)), (∀ b o, s.heap.get? b = some o → s'.heap.get? b = some o) → s'.gens = s.gens → s'.os = s.os → s.heap.objs.size ≤ p →
      s'.heap.get? p = some (seqObj "list" out.toArray c) → EachIs (fun v q => v = Value.ref q.1) out L' → L'.Perm L → L'.Pairwise (fun x y => HT.lexLt y.2 x.2 = false) → Q (.ref p) s') :
    wpAny (model P w) A (call (.builtin "sorted") [.ref a]) Q E s := by
  obtain ⟨o, ho, ex_, dat⟩ := R.ob
  have sz := R.size
  have most := R.most
  have fits : t.fits es.size = true := by
    have h1 := R.tab.sz
    rw [List.length_map] at h1
    have h3 := R.room
    unfold SetTable.fits SetTable.fill
    rw [R.tab.dm, Bool.and_eq_true, beq_iff_eq, decide_eq_true_eq]
    constructor
    · omega
    · change t.place.size + 0 ≤ t.mask
      omega
  refine Calls.call_function_entry kind_sorted plain_sorted entry_sorted (args_sorted1 _) ?_
  unfold Builtin.«sorted»
  refine wpAny_bind (m := checkCount "sorted" 1 1 _) (wpAny_pure ?_)
  refine wpAny_bind (collect_set (A := A.in1) noh ⟨o, ho, ex_.1, dat⟩ fits (by unfold scanBound; omega) R.tab.ris R.led fun s1 vs k1 hz g1 o1 pm => ?_)
  have es2 : es.toList.map (·.2) = L.map fun q => Value.ref q.1 := by
    rw [R.rows]
    simp [rowsOf]
  rw [es2] at pm
  obtain ⟨L1, pL, rfl⟩ := perm_map_ex pm
  have lenL : (L1.map fun q => Value.ref q.1).length ≤ sizeLine := by
    rw [List.length_map, pL.length_eq, sizeLine_eq]
    omega
  refine wpAny_bind (wpAny_newList ?_ lenL)
  have at1 : (s1.heap.push (seqObj "list" (L1.map fun q => Value.ref q.1).toArray 0)).get? s1.heap.objs.size = some (seqObj "list" (L1.map fun q => Value.ref q.1).toArray 0) := Heap.get?_push_size _ rfl
  have keep1 : ∀ b u, s.heap.get? b = some u → (s1.heap.push (seqObj "list" (L1.map fun q => Value.ref q.1).toArray 0)).get? b = some u := fun b u e => Heap.get?_push_of_some _ (k1 b u e)
  generalize hg : s1.heap.push (seqObj "list" (L1.map fun q => Value.ref q.1).toArray 0) = g at at1 keep1 ⊢
  have keep2 : ∀ b u, s.heap.get? b = some u → (PySem.W.sortingHeap g s1.heap.objs.size (L1.map fun q => Value.ref q.1)).get? b = some u := fun b u e =>
    PySem.W.sortingHeap_old (Nat.ne_of_lt (Nat.lt_of_lt_of_le (Heap.lt_size e) hz)) (keep1 b u e)
  have er := each_reads (P := P) (w := w) (h := PySem.W.sortingHeap g s1.heap.objs.size (L1.map fun q => Value.ref q.1)) rfl fun q hq => isT_keep (R.tup q (pL.mem_iff.mp hq)) keep2
  have S : PySem.W.SortsAt P w A.in1.in1 { s1 with heap := PySem.W.sortingHeap g s1.heap.objs.size (L1.map fun q => Value.ref q.1) } (dataKind (PySem.W.sortingHeap g s1.heap.objs.size (L1.map fun q => Value.ref q.1)) (L1.map fun q => tupD q.2)) (L1.map fun q => Value.ref q.1) := by
    refine sorts_lots (PySem.W.each_map (R := fun v d => ∃ as, Reads (PySem.W.sortingHeap g s1.heap.objs.size (L1.map fun q => Value.ref q.1)) v d as) (fun q : Addr × List Int => tupD q.2) er) (fun d hd => ?_) (by change A.units + 1 + 1 + 5 < cLine; omega)
    obtain ⟨q, _, rfl⟩ := List.mem_map.mp hd
    exact ⟨_, rfl⟩
  have hal : AllAlike (L1.map fun q => tupD q.2) := fun d hd d' hd' => by
    obtain ⟨q, _, rfl⟩ := List.mem_map.mp hd
    obtain ⟨q', _, rfl⟩ := List.mem_map.mp hd'
    exact alike_tupD _ _
  have e0 : EachIs (fun v (q : Addr × List Int) => v = Value.ref q.1) (L1.map fun q => Value.ref q.1) L1 := by
    clear S er keep2 keep1 at1 hg pm lenL pL hal
    induction L1 with
    | nil => exact .nil
    | cons q r ih => exact .cons rfl ih
  have eo := PySem.W.sortVals_data (h' := PySem.W.sortingHeap g s1.heap.objs.size (L1.map fun q => Value.ref q.1)) (enc := fun q : Addr × List Int => tupD q.2) false e0 er hal
  refine wpAny_bind (wpAny_holding (wpAny_call_entry slot_list_sort ⟨_, at1, rfl⟩ entry_list_sort (PySem.W.list_sort_vals at1 S lenL ⟨_, rfl, ?_⟩) (args_list_sort _)))
  generalize PySem.W.sortVals (dataKind (PySem.W.sortingHeap g s1.heap.objs.size (L1.map fun q => Value.ref q.1)) (L1.map fun q => tupD q.2)) false (L1.map fun q => Value.ref q.1) (L1.map fun q => Value.ref q.1) = out at eo
  obtain ⟨c, hc⟩ := sortedHeap_at (vs := L1.map fun q => Value.ref q.1) (out := out.toArray) at1
  refine wpAny_pure ⟨_, rfl, go _ s1.heap.objs.size out c _ (fun b u e => ?_) g1 o1 hz hc eo ((List.mergeSort_perm _ _).trans pL) (lexLe_pw L1)⟩
  have q := keep1 b u e
  change (sortedHeap g s1.heap.objs.size _ _).get? b = some u
  rw [sortedHeap_old (Nat.ne_of_lt (Nat.lt_of_lt_of_le (Heap.lt_size e) hz)) (Heap.lt_size q)]
  exact q
end
section
variable {X : Cx} {K : PySem.W.Frag} {P : Program} {w : World}
theorem vals_of_refEach : ∀ {us : List Value} {L : List (Addr × List Int)}, EachIs (fun v q => v = Value.ref q.1) us L → Vals (L.map fun q => V.ref q.1) us
  | _, _, .nil => .nil
  | _, _, .cons r t => .cons r (vals_of_refEach t)
theorem cr_sortS (hc : X.calm = true) (hu : X.A.units + 64 < cLine) (hK : X.K = K := by rfl) (hP : X.prog = P := by rfl) (hw : X.w = w := by rfl) : CallR X (.builtin "sorted") (rSortS K P w) := by
  subst hK hP hw
  intro pins s σ H vs us Q I r h
  obtain ⟨a, L, rfl, ha, hk, q⟩ := h
  obtain ⟨es, ep, t, h1, h2, h3, h4, h5, h6, h7, h8⟩ := (I.hok a _ ha).1
  rw [Vals.ref1 r]
  refine sorted_lotset (P := X.prog) (w := X.w) ⟨h1, h2, h3, h4, fun p hp => I.isT (hk p hp), h5, h6, h7, h8⟩ (I.ok.hd hc) hu fun s' p out c L' kp gp op hp hg heach pm pw => ?_
  have hlen : (L'.map fun q => V.ref q.1).length ≤ sizeLine := by rw [List.length_map, pm.length_eq, sizeLine_eq]; omega
  have hn : H p = none := I.hok.fresh hp
  have J : Inv X pins σ (upd H p (.lst (L'.map fun q => V.ref q.1))) { s with heap := s'.heap, gens := s'.gens, drawn := s'.drawn, toks := s'.toks } :=
    I.call (ch := []) (Un.laid kp hp hn) (I.hok.laid kp hp ⟨hlen, out, c, vals_of_refEach heach, hg⟩) (by rw [gp]; exact I.bare) (fun _ z => absurd z List.not_mem_nil)
  have e : s' = { s with heap := s'.heap, gens := s'.gens, drawn := s'.drawn, toks := s'.toks } := by
    obtain ⟨x1, x2, x3, x4, x5⟩ := s'
    cases op
    rfl
  rw [e]
  exact ⟨.ref p, _, J, rfl, q L' p pm pw hn⟩
end
end TW
set_option Elab.async false
set_option linter.all false
set_option maxRecDepth 100000
set_option maxHeartbeats 2000000
/-! for x in o, o of an own class whose __iter__ hands out iter(its tuple) -/
namespace TW
open PySem PySem.Spec PyProof.Rows L2
def tupIt (t : Addr) : Obj := { cls := .type "tuple_iterator", data := .fields #[.ref t, .int 0 0] }
/-- at it a new iterator over the tuple at t -/
def TiO (t it : Addr) : HO := .ext fun h => h.get? it = some (tupIt t)
def rIterT (K : PySem.W.Frag) (n : Nat) : List V → Hp → VK → Prop := fun vs H Q => ∃ (t : Addr) (zs : List V), vs = [.ref t] ∧ SqT K H t zs ∧ ∀ it, H it = none → n ≤ it → Q (.ref it) (upd H it (TiO t it))
theorem run_iterT {prog : Program} {w : World} {A : Around} {E : Value → Shared → Prop} {s : Shared} {t : Addr} {items : Array Value} {Q : Value → Shared → Prop} (ht : s.heap.IsTuple t items)
    (h : Q (.ref s.heap.objs.size) { s with heap := s.heap.push (tupIt t) }) : wpAny (model prog w) A (call (.builtin "iter") [.ref t]) Q E s := by
  refine Calls.call_function_entry (by decide +kernel) (by decide +kernel) PySem.W.kdk_entry_iter (PySem.W.kdk_args_iter _) ?_
  unfold Builtin.«iter»
  refine wpAny_bind (m := someArgs "iter" 1 2 _) (wpAny_of_eq (a := [Value.ref t]) (by first | rfl | kernel_rfl!) (wpAny_bind (wpAny_pyIter_tuple ht ?_)))
  exact wpAny_pure ⟨_, rfl, h⟩
section
variable {X : Cx}
theorem call_iterT {K : PySem.W.Frag} {n : Nat} (hK : X.K = K := by rfl) (hn : X.s_0.heap.objs.size = n := by rfl) : CallR X (.builtin "iter") (rIterT K n) := by
  subst hK hn
  intro pins s σ H vs us Q I r h
  obtain ⟨t, zs, rfl, hz, q⟩ := h
  cases Vals.ref1 r
  obtain ⟨its, rv, p, _⟩ := I.tuple hz
  exact run_iterT (show s.heap.IsTuple t its.toArray from p) ⟨.ref s.heap.objs.size, _, I.laid (t' := s.toks) (fun b u e => Heap.get?_push_of_some _ e) (Nat.le_refl _)
    (show ObjOk X.prog X.w _ _ s.heap.objs.size (TiO t s.heap.objs.size) from ⟨Heap.get?_push_size _ rfl, ⟨_, Heap.get?_push_size _ rfl⟩, fun _ _ z k => k _ z⟩), rfl, q _ (I.hok.fresh (Nat.le_refl _)) I.sz⟩
end
/-- a def that promises more of a call where the heap is this big -/
def FnY (P : Program) (w : World) (K : PySem.W.Frag) (mg : Str → Option Value) (base : Heap) (k : Nat) (f : Addr) (fd : FuncData) (ps : List Str) (sp : Nat → Sp) : Prop :=
  ∀ (A : Around) (outer : List Env) (s : Shared) (H : Hp) (us : List Value) (vs : List V) (Q : VK) , Room k A → Env0 P w K mg base A outer s H → BindsTo s fd ⟨us, []⟩ (ps.zip us) → Vals vs us → vs.length = ps.length → sp s.heap.objs.size vs H Q E0 →
    codeAny (model P w) A (.call (.ref f) ⟨us, []⟩) (CR CX0 outer P w H s Q E0) s
theorem Fun.okY {P : Program} {w : World} {K : PySem.W.Frag} {mg : Str → Option Value} {base : Heap} {k : Nat} {x qual : Str} {st : Stmt} {f : Addr} {fd : FuncData} {N ps : List Str} {sp : Nat → Sp} (F : Fun K x qual st f fd) (S : FnScope N ps (defScope st))
    (hb : ∀ (cdv : Value) (A : Around) (outer : List Env) (s : Shared) (H : Hp) (vs : List V) (Q : VK), Room k (A.deeper (envOfC qual (defScope st) s.heap.objs.size f cdv)) → sp s.heap.objs.size vs H Q E0 →
      ∃ t, PSs (cxOf CX0 P w K mg base N qual (defScope st) f cdv A outer s H E0) (defBody st) t ∧ t { nx := fun _ H' => Q .non H', rt := Q } (start N vs) H) : FnY P w K mg base (k + 1) f fd ps sp := by
  obtain ⟨oc, od, kV, doc, pm, an, cdv, ct, osl, rfl, lk, hcd⟩ := F.ex
  intro A outer s H us vs Q hr e0 hbd r hl hsp
  have KX : K.In s.heap := e0.mod.kin.keeps fun b o e => (e0.bs b o e).1
  have hkind : ∀ y ∈ ps.zip us, (defScope st).names.lookup y.1 = some .local ∨ ((defScope st).names.lookup y.1 = some .cell ∧ ((cellsFrom (s.heap.objs.size + 1) (defScope st).names []).lookup y.1).isSome = true) := by
    rintro ⟨n, v⟩ hy
    exact (S.par n (List.of_mem_zip hy).1).imp id fun q => ⟨q, PySem.W.cellsFrom_some _ _ _ (.inl q)⟩
  refine codeAny_call_function hr.depth (KX _ _ lk) rfl S.co S.gen rfl (PySem.W.codeRec_of KX hcd) (hbd _ _ _ _ (wpAny_newFunctionEnv_cells S.kind hkind ?_))
  rintro env rfl s1 x
  refine ⟨(e0.mod.nolimit.keeps fun b o e => (e0.bs b o e).1).keeps x.toInCall.keep, codeAny_func ?_⟩
  obtain ⟨t, ht, hq⟩ := hb cdv A outer s H vs Q (hr.deeper _) hsp
  refine wpAny_mono (ht.run [] s1 (start N vs) H _ (inv_start S hr.hd e0 hl r x) hq) (fun fl s' hs => ?_) fun e s' hs => hs
  cases fl with
  | ret u => exact hs.elim fun v z => z.elim fun σ' z => z.elim fun H' z => ⟨v, H', z.1.os, z.1.bare, z.1.base, z.1.hok, z.2.1, z.2.2⟩
  | next => exact hs.elim fun σ' z => z.elim fun H' z => ⟨V.non, H', z.1.os, z.1.bare, z.1.base, z.1.hok, rfl, z.2⟩
  | brk => exact hs.elim fun _ z => z.elim fun _ z => z.elim fun _ z => z.elim
  | cont => exact hs.elim fun _ z => z.elim fun _ z => z.elim fun _ z => z.elim
/-- what such an __iter__ promises: an iterator that was not there -/
def spIt (K : PySem.W.Frag) (C : Addr) (f : Str) : Nat → Sp := fun n vs H Q _ => ∃ a dx fs l zs, vs = [.ref a] ∧ H a = some (.ins C dx fs) ∧ fs.lookup f = some (.ref l) ∧ SqT K H l zs ∧ ∀ it, H it = none → n ≤ it → Q (.ref it) (upd H it (TiO l it))
def iOwn (K : PySem.W.Frag) (C : Addr) (f : Str) (te : TE) : TI := fun σ H R => te σ H fun x H1 => ∃ a dx fs l zs, x = .ref a ∧ H1 a = some (.ins C dx fs) ∧ fs.lookup f = some (.ref l) ∧ SqT K H1 l zs ∧ R (Itt K l) H1
theorem pi_own {X : Cx} {tg e : Expr} {te : TE} {k : Nat} {C fi : Addr} {fd : FuncData} {f : Str} (he : PE X e te) (h1 : PySem.W.findIn X.K (.ref C) "__iter__" = some (some (.ref fi))) (h2 : PySem.W.isFn X.K (.ref fi) = true)
    (F : FnY X.prog X.w X.K X.mg X.base k fi fd ["self"] (spIt X.K C f)) (b : Binds X.K fd ["self"] []) (hr : Room k X.A) : PI X tg e (iOwn X.K C f te) := by
  refine ⟨fun pins s σ H R I h => thn (he.run pins s σ H _ I h) fun v s1 y => ?_⟩
  obtain ⟨x, H1, I1, r1, a, dx, fs, l, zs, rfl, ha, hf, hz, q⟩ := y
  cases r1
  obtain ⟨mA, O, _⟩ := ins_get I1.hok ha
  obtain ⟨od, J, _⟩ := O.look
  obtain ⟨m, hF⟩ := I1.fr
  refine PySem.W.owit_iter hF I1.ok.mod.kin J h1 h2 (wpAny_call (codeAny_mono (F X.A X.stack s1 H1 [.ref a] [.ref a] (fun v H' => ∃ it, v = .ref it ∧ H1 it = none ∧ s1.heap.objs.size ≤ it ∧ H' = upd H1 it (TiO l it)) hr I1.env0 ?_ (.cons rfl .nil) rfl ?_) fun r s' hq => ?_))
  · have z := b s1 [.ref a] I1.kIn rfl
    rw [List.append_nil] at z
    exact z
  · exact ⟨a, dx, fs, l, zs, rfl, ha, hf, hz, fun it n1 n2 => ⟨it, rfl, n1, n2, rfl⟩⟩
  · cases r with
    | error er => exact hq.elim
    | ok fl =>
      cases fl with
      | next => exact hq.elim
      | brk => exact hq.elim
      | cont => exact hq.elim
      | ret u =>
        obtain ⟨v, H', I2, rv, it, rfl, n1, n2, rfl⟩ := I1.after hq
        cases rv
        have ho : s'.heap.get? it = some (tupIt l) := (I2.hok it _ upd_same).1
        unfold PySem.W.OwitIt
        refine wpAny_specialOf ⟨_, ho, rfl⟩ PySem.F.slot_tuple_iterator_next.lookup ?_
        have I3 := ItX.inv_drop I2 upd_same
        have fp := ItX.inv_fp I2 upd_same (Nat.le_trans I1.sz n2)
        rw [ItX.dropH_upd n1] at I3 fp
        refine ⟨it, [it], fun i h => h.IsTupleIter it l i, Itt X.K l, H1, rfl, I3, turn_tuple l it, ⟨_, ho, rfl, rfl⟩, fun b hb => ?_, q⟩
        rw [List.mem_singleton.mp hb]
        exact fp
end TW
set_option Elab.async false
set_option linter.all false
set_option maxRecDepth 100000
set_option maxHeartbeats 4000000
namespace TW
open PySem PySem.Spec PyProof.Rows L2
/-! tables -/
theorem tl_ne : ¬ (("_lots" : Str) = "_things") := by decide +kernel
def tf (n : Nat) (l : Addr) : List (Str × V) := putF "_lots" (.ref l) (putF "_things" (.int n) [])
theorem tf_things (n : Nat) (l : Addr) : (tf n l).lookup ("_things" : Str) = some (.int n) := by
  unfold tf
  rw [lookup_putF, if_neg (fun h => tl_ne h.symm), lookup_putF, if_pos rfl]
theorem tf_lots (n : Nat) (l : Addr) : (tf n l).lookup ("_lots" : Str) = some (.ref l) := by
  unfold tf
  rw [lookup_putF, if_pos rfl]
abbrev Lots := List (Addr × List Int)
def refs (L : Lots) : List V := L.map fun p => V.ref p.1
def InLots (H : Hp) (L : Lots) : Prop := ∀ p ∈ L, H p.1 = some (.tup (p.2.map V.int))
theorem InLots.ex {H H' : Hp} {L : Lots} (e : Ex H H') (h : InLots H L) : InLots H' L := fun p hp => e _ _ (h p hp)
def TabAt (C : Addr) (H : Hp) (a : Addr) (n : Nat) (L : Lots) : Prop := ∃ dx l, H a = some (.ins C dx (tf n l)) ∧ H l = some (.tup (refs L)) ∧ InLots H L
theorem TabAt.ex {C : Addr} {H H' : Hp} {a : Addr} {n : Nat} {L : Lots} (e : Ex H H') (h : TabAt C H a n L) : TabAt C H' a n L := by
  obtain ⟨dx, l, h1, h2, h3⟩ := h
  exact ⟨dx, l, e _ _ h1, e _ _ h2, h3.ex e⟩
/-- what of the lots a table keeps -/
def LotsOf (ks L : Lots) : Prop := (∀ p ∈ L, p ∈ ks) ∧ (∀ p ∈ ks, p.2 ∈ L.map (·.2)) ∧ (L.map (·.2)).Nodup ∧ L.Pairwise (fun x y => HT.lexLt y.2 x.2 = false)
structure TC (K : PySem.W.Frag) (mg : Str → Option Value) (C : Addr) : Prop where
  cl : Cls K C
  ins : C8.InsC K C
  nT : NoAttr K C "_things"
  nL : NoAttr K C "_lots"
  mg : mg "Table" = some (.ref C)
section
variable {P : Program} {w : World} {K : PySem.W.Frag} {mg : Str → Option Value} {base : Heap} {C : Addr}
def spCheckThings : Sp := fun vs H Q _ => ∃ n : Nat, vs = [.int n] ∧ 0 < n ∧ Q .non H
def lotsIn (n : Nat) (ks : Lots) : Prop := ks ≠ [] ∧ ks.length ≤ 64 ∧ ∀ p ∈ ks, isLot p.2 (some (n : Int)) = true ∧ p.2.length ≤ 1000
def spInit (C : Addr) : Sp := fun vs H Q _ => ∃ (G : Hp) (l : List (Addr × HO)) (a dx ll : Addr) (n : Nat) (ks : Lots), vs = [.ref a, .int n, .ref ll] ∧ Has G H ((a, .ins C dx []) :: l) ∧ H ll = some (.lst (refs ks)) ∧ ll ≠ a ∧ InLots G ks ∧ 0 < n ∧ lotsIn n ks ∧
  ∀ (G' H' : Hp) (dl : Addr) (L : Lots), Ex G G' → Has G' H' ((a, .ins C dx (tf n dl)) :: l) → G' dl = some (.tup (refs L)) → LotsOf ks L → Q .non H'
end
end TW
set_option Elab.async false
set_option linter.all false
set_option maxRecDepth 100000
set_option maxHeartbeats 4000000
namespace TW
open PySem PySem.Spec PyProof.Rows L2
section
variable {P : Program} {w : World} {K : PySem.W.Frag} {mg : Str → Option Value} {base : Heap} {C : Addr}
def spThings (C : Addr) : Sp := fun vs H Q _ => ∃ (a : Addr) (n : Nat) (L : Lots), vs = [.ref a] ∧ TabAt C H a n L ∧ Q (.int n) H
def spLots (C : Addr) : Sp := fun vs H Q _ => ∃ (a : Addr) (n : Nat) (L : Lots), vs = [.ref a] ∧ TabAt C H a n L ∧ ∀ t, H t = none → Q (.ref t) (upd H t (.lst (refs L)))
def spCheckTable (C : Addr) : Sp := fun vs H Q _ => ∃ (a : Addr) (n : Nat) (L : Lots), vs = [.ref a] ∧ TabAt C H a n L ∧ Q .non H
/-! _law_make_table -/
theorem lot_mem {m : Int} {n : Nat} {x : Int} : x ∈ lotOf m n ↔ ∃ k : Nat, k < n ∧ bitB m k = true ∧ x = k := by
  unfold lotOf
  rw [List.mem_map]
  constructor
  · rintro ⟨k, hk, rfl⟩
    obtain ⟨h1, h2⟩ := List.mem_filter.mp hk
    exact ⟨k, List.mem_range.mp h1, h2, rfl⟩
  · rintro ⟨k, h1, h2, rfl⟩
    exact ⟨k, List.mem_filter.mpr ⟨List.mem_range.mpr h1, h2⟩, rfl⟩
theorem lot_asc (m : Int) (n : Nat) : Up (lotOf m n) := by
  unfold lotOf Up
  rw [List.pairwise_map]
  exact (List.pairwise_lt_range.filter _).imp fun h => by omega
theorem lot_ok (m : Int) (n : Nat) : isLot (lotOf m n) (some (n : Int)) = true := by
  unfold isLot
  rw [up_asc (lot_asc m n), Bool.and_true, List.all_eq_true]
  intro x hx
  obtain ⟨k, hk, _, rfl⟩ := lot_mem.mp hx
  rw [Bool.and_eq_true]
  exact ⟨decide_eq_true (by omega), decide_eq_true (by omega)⟩
def TabOf (n : Nat) (ms : List Int) (L : Lots) : Prop := (∀ p ∈ L, ∃ m ∈ ms, p.2 = lotOf m n) ∧ (∀ m ∈ ms, lotOf m n ∈ L.map (·.2)) ∧ (L.map (·.2)).Nodup ∧ L.Pairwise (fun x y => HT.lexLt y.2 x.2 = false)
def spMakeTable (K : PySem.W.Frag) (C : Addr) : Sp := fun vs H Q _ => ∃ (G : Hp) (l : List (Addr × HO)) (a : Addr) (n : Nat) (ms : List Int), vs = [.int n, .ref a] ∧ Has G H l ∧ SqL K H a (ms.map V.int) ∧ 0 < n ∧ n ≤ 1000 ∧ ms ≠ [] ∧ ms.length ≤ 64 ∧
  ∀ (G' : Hp) (t : Addr) (H' : Hp) (L : Lots), Ex G G' → Has G' H' l → TabAt C G' t n L → TabOf n ms L → Q (.ref t) H'
structure TM (P : Program) (w : World) (K : PySem.W.Frag) (mg : Str → Option Value) (base : Heap) (C f : Addr) (fd : FuncData) : Prop where
  make : Mk K C f
  ok : FnOk P w K mg base CX0 4 f fd ["self", "things", "lots"] (spInit C)
  b : Binds K fd ["self", "things", "lots"] []
end
end TW
set_option Elab.async false
set_option linter.all false
set_option maxRecDepth 100000
set_option maxHeartbeats 4000000
namespace TW
open PySem PySem.Spec PyProof.Rows L2
/-- a walk whose body is any predicate transformer: for the inner loop of a comprehension -/
theorem inner {J : It} {n : Nat} {G : Hp → Prop} {Y : Nat → Hp → V → Hp → Prop} (k : Walk J n G Y) {B : (Hp → Prop) → V → Hp → Prop} {H0 : Hp} {Qd : Hp → Prop} (I : Nat → Hp → Prop) (h0 : I 0 H0) (hG : ∀ i H, i ≤ n → I i H → G H)
    (hs : ∀ i x H H', i < n → I i H → Y i H x H' → B (I (i + 1)) x H') (hd : ∀ H, I n H → Qd H) :
    ∃ W : Nat → Nat → Hp → Prop, (∃ m, W 0 m H0) ∧ ∀ i m H, W i m H → (J.stop i H ∧ Qd H) ∨ (J.go i H ∧ ∃ Nx : Hp → Prop, (∀ H', Nx H' → ∃ m', m' < m ∧ W (i + 1) m' H') ∧ ∀ x H', J.yld i H x H' → B Nx x H') := by
  refine ⟨fun i m H => i ≤ n ∧ I i H ∧ m + i = n, ⟨n, Nat.zero_le _, h0, rfl⟩, fun i m H ⟨hi, p, hm⟩ => ?_⟩
  rcases Nat.lt_or_eq_of_le hi with c | c
  · exact .inr ⟨k.goes i H c (hG i H hi p), I (i + 1), fun H' p' => ⟨m - 1, by omega, c, p', by omega⟩, fun x H' y => hs i x H H' c p (k.yields i H x H' c (hG i H hi p) y)⟩
  · rw [c] at p ⊢
    exact .inl ⟨k.stops H (hG n H (Nat.le_refl _) p), hd H p⟩
theorem pi_tupK {X : Cx} {K : PySem.W.Frag} {tg l : Expr} {tl : TE} (hl : PE X l tl) (h : X.K = K := by rfl) : PI X tg l (iTup K tl) := by
  subst h
  exact pi_tup hl
theorem pi_listK {X : Cx} {K : PySem.W.Frag} {tg l : Expr} {tl : TE} (hl : PE X l tl) (h : X.K = K := by rfl) : PI X tg l (iList K tl) := by
  subst h
  exact pi_list hl
def mt (ns : List Int) (s : Sgn) : Bool := decide ((s.1 : Int) ∈ ns) == s.2
theorem mt_lot {m : Int} {n : Nat} {s : Sgn} (h : s.1 < n) : mt (lotOf m n) s = met m s := by
  unfold mt met
  have : decide ((s.1 : Int) ∈ lotOf m n) = bitB m s.1 := by
    rw [Bool.eq_iff_iff, decide_eq_true_eq, lot_mem]
    constructor
    · rintro ⟨k, _, hb, e⟩
      have : s.1 = k := by omega
      rw [this]
      exact hb
    · intro hb
      exact ⟨s.1, h, hb, rfl⟩
  rw [this]
theorem dec_bl (a b : Bool) : decide (V.bl a = V.bl b) = (a == b) := by cases a <;> cases b <;> rfl
section
variable {P : Program} {w : World} {K : PySem.W.Frag} {mg : Str → Option Value} {base : Heap} {C : Addr}
def spMeets (K : PySem.W.Frag) : Sp := fun vs H Q _ => ∃ (a : Addr) (ns : List Int) (v : V) (s : Sgn), vs = [.ref a, v] ∧ SqT K H a (ns.map V.int) ∧ At H v (dSgn s) ∧ Q (.bl (mt ns s)) H
def spKeeps (K : PySem.W.Frag) : Sp := fun vs H Q _ => ∃ (a : Addr) (ns : List Int) (v : V) (b : Bar), vs = [.ref a, v] ∧ SqT K H a (ns.map V.int) ∧ At H v (dBar b) ∧ b.length ≤ 100 ∧ ∀ H', Ex H H' → Q (.bl (b.any (mt ns))) H'
/-! has_rule -/
structure TI (P : Program) (w : World) (K : PySem.W.Frag) (mg : Str → Option Value) (base : Heap) (C f : Addr) (fd : FuncData) : Prop where
  at_ : PySem.W.findIn K (.ref C) "__iter__" = some (some (.ref f))
  fn : PySem.W.isFn K (.ref f) = true
  ok : FnY P w K mg base 1 f fd ["self"] (spIt K C "_lots")
  b : Binds K fd ["self"] []
def hasR (lots : List (List Int)) (b : Bar) : Bool := lots.all fun ns => b.any (mt ns)
def spHasRule (C : Addr) : Sp := fun vs H Q _ => ∃ (a : Addr) (n : Nat) (L : Lots) (v : V) (b : Bar), vs = [.ref a, v] ∧ TabAt C H a n L ∧ At H v (dBar b) ∧ b.length ≤ 100 ∧ ∀ H', Ex H H' → Q (.bl (hasR (L.map (·.2)) b)) H'
theorem refs_get {L : Lots} {i : Nat} {x : V} (h : (refs L)[i]? = some x) : ∃ p, L[i]? = some p ∧ x = V.ref p.1 := by
  unfold refs at h
  rw [List.getElem?_map] at h
  cases e : L[i]? with
  | none => rw [e] at h; cases h
  | some p => rw [e] at h; exact ⟨p, rfl, (Option.some.inj h).symm⟩
theorem refs_len (L : Lots) : (refs L).length = L.length := List.length_map _
/-! all_literals, _law_all_signs -/
def allS (n : Nat) : List Sgn := (List.range n).flatMap fun k => [(k, true), (k, false)]
theorem allS_up (n : Nat) : allS (n + 1) = allS n ++ [(n, true), (n, false)] := by
  unfold allS
  rw [List.range_succ, List.flatMap_append]
  rfl
theorem allS_len (n : Nat) : (allS n).length = 2 * n := by
  induction n with
  | zero => rfl
  | succ n ih =>
    rw [allS_up, List.length_append, ih]
    show 2 * n + 2 = _
    omega
def spAllS : Sp := fun vs H Q _ => ∃ (G : Hp) (l : List (Addr × HO)) (n : Nat), vs = [.int n] ∧ Has G H l ∧ n ≤ 1000 ∧ ∀ (G' : Hp) (t : Addr) (xs : List V) (H' : Hp), Ex G G' → Has G' H' ((t, .lst xs) :: l) → Ats G' xs ((allS n).map dSgn) → Q (.ref t) H'
end
end TW
set_option Elab.async false
set_option linter.all false
set_option maxRecDepth 100000
set_option maxHeartbeats 4000000
namespace TW
open PySem PySem.Spec PyProof.Rows L2
open PySem.W (AllAlike Sortable dataLt dataLe)
/-! data of rules -/
theorem lay_sgn (s : Sgn) : (dSgn s).canLay0 = true := by
  have h : ∀ b, (PyData.str (sw b)).canLay0 = true := fun b => by cases b <;> decide +kernel
  show (true && ((PyData.str (sw s.2)).canLay0 && true)) = true
  rw [h]
  rfl
theorem lay_sgns : ∀ b : Bar, PyData.canLayAll0 (b.map dSgn) = true
  | [] => rfl
  | s :: b => by
    show ((dSgn s).canLay0 && PyData.canLayAll0 (b.map dSgn)) = true
    rw [lay_sgn, lay_sgns b]
    rfl
theorem lay_bars : ∀ bs : List Bar, PyData.canLayAll0 (bs.map dBar) = true
  | [] => rfl
  | b :: bs => by
    show ((dBar b).canLay0 && PyData.canLayAll0 (bs.map dBar)) = true
    rw [show (dBar b).canLay0 = true from lay_sgns b, lay_bars bs]
    rfl
theorem depth_all {n : Nat} : ∀ {ds : List PyData}, (∀ d ∈ ds, d.depth ≤ n) → PyData.depthAll ds ≤ n
  | [], _ => Nat.zero_le _
  | d :: ds, h => by
    have h1 := h d List.mem_cons_self
    have h2 := depth_all fun x hx => h x (List.mem_cons_of_mem _ hx)
    simp only [PyData.depthAll]
    omega
theorem dep_bar (b : Bar) : (dBar b).depth ≤ 2 := by
  unfold dBar
  have := depth_all (n := 1) (ds := b.map dSgn) fun d hd => by
    obtain ⟨s, _, rfl⟩ := List.mem_map.mp hd
    exact dep_sgn s
  simp only [PyData.depth]
  omega
theorem shaped_bar (b : Bar) : SeqAt.shaped (dBar b) = true := by
  unfold SeqAt.shaped
  rw [Bool.and_eq_true, decide_eq_true_eq]
  exact ⟨lay_sgns b, Nat.le_trans (dep_bar b) (by decide)⟩
theorem shaped_bars (bs : List Bar) : SeqAt.shaped (dBars bs) = true := by
  unfold SeqAt.shaped
  rw [Bool.and_eq_true, decide_eq_true_eq]
  refine ⟨lay_bars bs, ?_⟩
  unfold dBars
  have := depth_all (n := 2) (ds := bs.map dBar) fun d hd => by
    obtain ⟨s, _, rfl⟩ := List.mem_map.mp hd
    exact dep_bar s
  simp only [PyData.depth]
  omega
theorem eqv_sgn (s t : Sgn) : PyData.eqv (dSgn s) (dSgn t) = decide (s = t) := by
  obtain ⟨a, b⟩ := s
  obtain ⟨c, d⟩ := t
  have e1 : PyData.eqv (dSgn (a, b)) (dSgn (c, d)) = ((a : Int) == (c : Int) && (sw b == sw d && true)) := rfl
  have e2 : (sw b == sw d) = (b == d) := by cases b <;> cases d <;> decide +kernel
  rw [e1, e2, Bool.and_true, Bool.eq_iff_iff, decide_eq_true_eq, Bool.and_eq_true, beq_iff_eq, beq_iff_eq, Prod.mk.injEq]
  constructor
  · rintro ⟨h, rfl⟩
    exact ⟨by omega, rfl⟩
  · rintro ⟨rfl, rfl⟩
    exact ⟨rfl, rfl⟩
theorem eqv_one (s t : Sgn) : PyData.eqv (dBar [s]) (dBar [t]) = decide (s = t) := by
  show (PyData.eqv (dSgn s) (dSgn t) && true) = _
  rw [Bool.and_true, eqv_sgn]
theorem alike_bar : ∀ a b : Bar, PySem.W.alikeAll (a.map dSgn) (b.map dSgn) = true
  | [], b => by simp [PySem.W.alikeAll]
  | s :: a, [] => by simp [PySem.W.alikeAll]
  | s :: a, t :: b => by
    rw [List.map_cons, List.map_cons, PySem.W.alikeAll, alike_sgn, alike_bar a b]
    rfl
theorem bars_sort {bs : List Bar} (h : ∀ b ∈ bs, b ≠ []) : AllAlike (bs.map dBar) ∧ Sortable (bs.map dBar) := by
  refine ⟨fun d hd d' hd' => ?_, .inl fun d hd => ?_⟩
  · obtain ⟨a, _, rfl⟩ := List.mem_map.mp hd
    obtain ⟨b, _, rfl⟩ := List.mem_map.mp hd'
    unfold dBar
    rw [PySem.W.alike]
    exact alike_bar a b
  · obtain ⟨b, hb, rfl⟩ := List.mem_map.mp hd
    cases b with
    | nil => exact absurd rfl (h _ hb)
    | cons s b => exact ⟨_, _, rfl⟩
theorem ats_zip {H : Hp} {xs : List V} {ds : List PyData} (h : Ats H xs ds) : (xs.zip ds).map (·.1) = xs ∧ (xs.zip ds).map (·.2) = ds ∧ ∀ b ∈ xs.zip ds, At H b.1 b.2 := by
  refine ⟨List.map_fst_zip (by rw [h.1]; exact Nat.le_refl _), List.map_snd_zip (by rw [h.1]; exact Nat.le_refl _), fun b hb => ?_⟩
  obtain ⟨i, hi⟩ := List.mem_iff_getElem?.mp hb
  rw [List.getElem?_zip_eq_some] at hi
  exact h.2 i _ _ hi.1 hi.2
/-! what the program finds -/
def singleS (lots : List (List Int)) (n : Nat) : List Sgn := (allS n).filter fun s => hasR lots [s]
def opensS (lots : List (List Int)) (n : Nat) : List Sgn := (allS n).filter fun s => !hasR lots [s]
def pairsAt (os : List Sgn) (low : Sgn) : List Bar := (os.filter fun high => decide (low.1 < high.1)).map fun high => [low, high]
def rulesU (lots : List (List Int)) (n : Nat) : List Bar := (singleS lots n).map (fun s => [s]) ++ (((opensS lots n).flatMap (pairsAt (opensS lots n))).filter (hasR lots))
def rulesD (lots : List (List Int)) (n : Nat) : List PyData := ((rulesU lots n).map dBar).mergeSort dLe
theorem rulesU_ne {lots : List (List Int)} {n : Nat} : ∀ b ∈ rulesU lots n, b ≠ [] := fun b hb e => by
  subst e
  unfold rulesU pairsAt at hb
  rcases List.mem_append.mp hb with h | h
  · obtain ⟨s, _, e⟩ := List.mem_map.mp h
    cases e
  · obtain ⟨s, _, h2⟩ := List.mem_flatMap.mp (List.mem_filter.mp h).1
    obtain ⟨t, _, e⟩ := List.mem_map.mp h2
    cases e
theorem in_single {lots : List (List Int)} {n : Nat} {s : Sgn} (h : s ∈ allS n) : (!((singleS lots n).map fun t => dBar [t]).any fun z => PyData.eqv z (dBar [s])) = !hasR lots [s] := by
  congr 1
  rw [List.any_map, Bool.eq_iff_iff, List.any_eq_true]
  constructor
  · rintro ⟨t, ht, e⟩
    have e' : PyData.eqv (dBar [t]) (dBar [s]) = true := e
    rw [eqv_one, decide_eq_true_eq] at e'
    subst e'
    exact (List.mem_filter.mp ht).2
  · intro hq
    refine ⟨s, List.mem_filter.mpr ⟨h, hq⟩, ?_⟩
    show PyData.eqv (dBar [s]) (dBar [s]) = true
    rw [eqv_one, decide_eq_true_eq]
theorem pairsAt_len (os : List Sgn) (low : Sgn) : (pairsAt os low).length ≤ os.length := by
  unfold pairsAt
  rw [List.length_map]
  exact List.length_filter_le _ _
theorem flat_len {α β : Type} {f : α → List β} {k : Nat} : ∀ {l : List α}, (∀ x ∈ l, (f x).length ≤ k) → (l.flatMap f).length ≤ l.length * k
  | [], _ => by simp
  | x :: l, h => by
    have h1 := h x List.mem_cons_self
    have h2 := flat_len (l := l) fun y hy => h y (List.mem_cons_of_mem _ hy)
    rw [List.flatMap_cons, List.length_append, List.length_cons, Nat.succ_mul]
    omega
section
variable {X : Cx} {K : PySem.W.Frag}
theorem op_notInDK (hu : X.A.units + 65 < cLine) (h : X.K = K := by rfl) : OpR X (compareOp .NotIn) (rNotInD K) := by
  subst h
  exact op_notInD hu
end
section
variable {P : Program} {w : World} {K : PySem.W.Frag} {mg : Str → Option Value} {base : Heap} {C : Addr}
structure TG (P : Program) (w : World) (K : PySem.W.Frag) (mg : Str → Option Value) (base : Heap) (C p g : Addr) (fd : FuncData) (nm : Str) (sp : Sp) : Prop where
  at_ : PropOf K C nm p g
  ok : FnOk P w K mg base CX0 1 g fd ["self"] sp
  b : Binds K fd ["self"] []
def spRulesOf (C : Addr) : Sp := fun vs H Q _ => ∃ (G : Hp) (l : List (Addr × HO)) (a : Addr) (n : Nat) (L : Lots), vs = [.ref a] ∧ Has G H l ∧ TabAt C G a n L ∧ n ≤ 50 ∧
  ∀ (G' : Hp) (t : Addr) (xs : List V) (H' : Hp), Ex G G' → Has G' H' ((t, .lst xs) :: l) → Ats G' xs (rulesD (L.map (·.2)) n) → Q (.ref t) H'
end
end TW
set_option Elab.async false
set_option linter.all false
set_option maxRecDepth 100000
set_option maxHeartbeats 4000000
namespace TW
open PySem PySem.Spec PyProof.Rows L2
open PySem.W (AllAlike Sortable dataLt dataLe)
/-! what the law finds -/
def aM (ms : List Int) (s : Sgn) : Bool := ms.all fun m => met m s
def hasM (ms : List Int) (b : Bar) : Bool := ms.all fun m => b.any (met m)
def cnd (ms : List Int) (low high : Sgn) : Bool := !aM ms low && (!aM ms high && (!decide (low.1 = high.1) && hasM ms [low, high]))
def rowAt (ms : List Int) (S : List Sgn) (i : Nat) : List Bar := match S[i]? with
  | some low => ((S.drop (i + 1)).filter (cnd ms low)).map fun high => [low, high]
  | none => []
def sharpU (ms : List Int) (n : Nat) : List Bar := ((allS n).filter (aM ms)).map (fun s => [s]) ++ (List.range (2 * n)).flatMap (rowAt ms (allS n))
def sharpD (ms : List Int) (n : Nat) : List PyData := ((sharpU ms n).map dBar).mergeSort dLe
theorem rowAt_pair {ms : List Int} {S : List Sgn} {i : Nat} {b : Bar} (h : b ∈ rowAt ms S i) : ∃ s t, b = [s, t] := by
  unfold rowAt at h
  cases e : S[i]? with
  | none => rw [e] at h; exact absurd h List.not_mem_nil
  | some low =>
    rw [e] at h
    obtain ⟨t, _, rfl⟩ := List.mem_map.mp h
    exact ⟨_, _, rfl⟩
theorem sharpU_ne {ms : List Int} {n : Nat} : ∀ b ∈ sharpU ms n, b ≠ [] := fun b hb e => by
  subst e
  unfold sharpU at hb
  rcases List.mem_append.mp hb with h | h
  · obtain ⟨s, _, e⟩ := List.mem_map.mp h
    cases e
  · obtain ⟨s, _, h2⟩ := List.mem_flatMap.mp h
    obtain ⟨s, t, e⟩ := rowAt_pair h2
    cases e
theorem rowAt_len (ms : List Int) (S : List Sgn) (i : Nat) : (rowAt ms S i).length ≤ S.length := by
  unfold rowAt
  cases S[i]? with
  | none => exact Nat.zero_le _
  | some low =>
    rw [List.length_map]
    exact Nat.le_trans (List.length_filter_le _ _) (by rw [List.length_drop]; omega)
theorem kept_one (m : Int) (b : Bar) : keptB m [b] = b.any (met m) := by
  show (b.any (met m) && true) = _
  rw [Bool.and_true]
theorem range_flat {α : Type} (f : Nat → List α) (i : Nat) : (List.range (i + 1)).flatMap f = (List.range i).flatMap f ++ f i := by
  rw [List.range_succ, List.flatMap_append, List.flatMap_cons]
  simp
theorem drop_get {α : Type} {l : List α} {i j : Nat} : (l.drop i)[j]? = l[i + j]? := by rw [List.getElem?_drop]
section
variable {P : Program} {w : World} {K : PySem.W.Frag} {mg : Str → Option Value} {base : Heap} {C : Addr}
abbrev NS : List Str := ["masks", "wide", "signs", "alone", "row", "one", "two", "bar", "sign", "mask", "k"]
def scSign : Scope := { kind := .function, names := [(".0", .local), ("sign", .cell), ("all", .globalImplicit), ("masks", .cell)], isGenerator := false, isCoroutine := false }
def spSharp : Sp := fun vs H Q _ => ∃ (G : Hp) (l : List (Addr × HO)) (a : Addr) (n : Nat) (ms : List Int), vs = [.ref a, .int n] ∧ Has G H l ∧ G a = some (.lst (ms.map V.int)) ∧ n ≤ 50 ∧ ms.length ≤ 1000 ∧
  ∀ (G' : Hp) (t : Addr) (xs : List V) (H' : Hp), Ex G G' → Has G' H' ((t, .lst xs) :: l) → Ats G' xs (sharpD ms n) → Q (.ref t) H'
end
end TW
set_option Elab.async false
set_option linter.all false
set_option maxRecDepth 100000
set_option maxHeartbeats 4000000
namespace TW
open PySem PySem.Spec PyProof.Rows L2
open PySem.W (AllAlike Sortable dataLt dataLe)
/-! one list, told twice -/
theorem strict_ext {α : Type} {r : α → α → Prop} (as : ∀ x y, r x y → r y x → False) : ∀ {xs ys : List α}, xs.Pairwise r → ys.Pairwise r → (∀ z, z ∈ xs ↔ z ∈ ys) → xs = ys
  | [], [], _, _, _ => rfl
  | [], y :: t, _, _, h => absurd ((h y).mpr List.mem_cons_self) List.not_mem_nil
  | x :: t, [], _, _, h => absurd ((h x).mp List.mem_cons_self) List.not_mem_nil
  | x :: xs, y :: ys, hx, hy, h => by
    have cx := List.pairwise_cons.mp hx
    have cy := List.pairwise_cons.mp hy
    have e : x = y := by
      rcases List.mem_cons.mp ((h x).mp List.mem_cons_self) with q | q
      · exact q
      rcases List.mem_cons.mp ((h y).mpr List.mem_cons_self) with p | p
      · exact p.symm
      · exact (as _ _ (cx.1 y p) (cy.1 x q)).elim
    subst e
    have ir : ∀ z, r x z → z ≠ x := fun z q e => by
      subst e
      exact as _ _ q q
    rw [strict_ext as cx.2 cy.2 fun z => ⟨fun hz => ?_, fun hz => ?_⟩]
    · rcases List.mem_cons.mp ((h z).mp (List.mem_cons_of_mem _ hz)) with q | q
      · exact absurd q (ir z (cx.1 z hz))
      · exact q
    · rcases List.mem_cons.mp ((h z).mpr (List.mem_cons_of_mem _ hz)) with q | q
      · exact absurd q (ir z (cy.1 z hz))
      · exact q
def tl {α β : Type} (f : α → List α → List β) : List α → List β
  | [] => []
  | x :: r => f x r ++ tl f r
theorem tl_range {α β : Type} (f : α → List α → List β) : ∀ l : List α, (List.range l.length).flatMap (fun i => match l[i]? with | some x => f x (l.drop (i + 1)) | none => []) = tl f l
  | [] => rfl
  | x :: r => by
    rw [List.length_cons, List.range_succ_eq_map, List.flatMap_cons, List.flatMap_map]
    have ih := tl_range f r
    show f x r ++ (List.range r.length).flatMap (fun i => match r[i]? with | some x => f x (r.drop (i + 1)) | none => []) = f x r ++ tl f r
    rw [ih]
/-! the two lists of rules -/
theorem allS_lt {n : Nat} {s : Sgn} (h : s ∈ allS n) : s.1 < n := by
  unfold allS at h
  obtain ⟨k, hk, h2⟩ := List.mem_flatMap.mp h
  have := List.mem_range.mp hk
  simp only [List.mem_cons, List.not_mem_nil, or_false] at h2
  rcases h2 with rfl | rfl <;> exact this
theorem allS_le (n : Nat) : (allS n).Pairwise fun s t => s.1 ≤ t.1 := by
  induction n with
  | zero => exact List.Pairwise.nil
  | succ n ih =>
    rw [allS_up, List.pairwise_append]
    refine ⟨ih, ?_, fun s hs t ht => ?_⟩
    · refine List.pairwise_cons.mpr ⟨fun t ht => ?_, List.pairwise_singleton _ _⟩
      rw [List.mem_singleton.mp ht]
      exact Nat.le_refl _
    · have h1 := allS_lt hs
      simp only [List.mem_cons, List.not_mem_nil, or_false] at ht
      rcases ht with rfl | rfl <;> exact Nat.le_of_lt h1
def LotsAre (n : Nat) (ms : List Int) (lots : List (List Int)) : Prop := (∀ x ∈ lots, ∃ m ∈ ms, x = lotOf m n) ∧ ∀ m ∈ ms, lotOf m n ∈ lots
theorem any_mt {m : Int} {n : Nat} {b : Bar} (h : ∀ s ∈ b, s.1 < n) : b.any (mt (lotOf m n)) = b.any (met m) := by
  induction b with
  | nil => rfl
  | cons s b ih =>
    rw [List.any_cons, List.any_cons, mt_lot (h s List.mem_cons_self), ih fun t ht => h t (List.mem_cons_of_mem _ ht)]
theorem hasR_eq {n : Nat} {ms : List Int} {lots : List (List Int)} (h : LotsAre n ms lots) {b : Bar} (hb : ∀ s ∈ b, s.1 < n) : hasR lots b = hasM ms b := by
  unfold hasR hasM
  rw [Bool.eq_iff_iff, List.all_eq_true, List.all_eq_true]
  constructor
  · intro q m hm
    rw [← any_mt hb]
    exact q _ (h.2 m hm)
  · intro q x hx
    obtain ⟨m, hm, rfl⟩ := h.1 x hx
    rw [any_mt hb]
    exact q m hm
theorem hasM_one (ms : List Int) (s : Sgn) : hasM ms [s] = aM ms s := by
  unfold hasM aM
  congr 1
  funext m
  show (met m s || false) = _
  rw [Bool.or_false]
theorem filt_congr {α : Type} {f g : α → Bool} {l : List α} (h : ∀ x ∈ l, f x = g x) : l.filter f = l.filter g := by
  induction l with
  | nil => rfl
  | cons x l ih => rw [List.filter_cons, List.filter_cons, h x List.mem_cons_self, ih fun y hy => h y (List.mem_cons_of_mem _ hy)]
theorem flat_congr {α β : Type} {f g : α → List β} {l : List α} (h : ∀ x ∈ l, f x = g x) : l.flatMap f = l.flatMap g := by
  induction l with
  | nil => rfl
  | cons x l ih => rw [List.flatMap_cons, List.flatMap_cons, h x List.mem_cons_self, ih fun y hy => h y (List.mem_cons_of_mem _ hy)]
theorem filter_none {α : Type} {f : α → Bool} {l : List α} (h : ∀ x ∈ l, f x = false) : l.filter f = [] := List.filter_eq_nil_iff.mpr fun x hx => by rw [h x hx]; decide
theorem pairs_tl {ms : List Int} : ∀ (suf pre S : List Sgn), S = pre ++ suf → S.Pairwise (fun s t => s.1 ≤ t.1) →
    (suf.filter fun s => !aM ms s).flatMap (fun low => (pairsAt (S.filter fun s => !aM ms s) low).filter (hasM ms)) = tl (fun low r => (r.filter (cnd ms low)).map fun high => [low, high]) suf
  | [], _, _, _, _ => rfl
  | x :: r, pre, S, e, hS => by
    have ih := pairs_tl (ms := ms) r (pre ++ [x]) S (by rw [e, List.append_assoc]; rfl) hS
    have hS' := hS
    rw [e, List.pairwise_append, List.pairwise_cons] at hS'
    obtain ⟨hp, ⟨hx, hr⟩, hc⟩ := hS'
    cases ho : aM ms x with
    | true =>
      rw [List.filter_cons, if_neg (by rw [ho]; decide), ih]
      show _ = (r.filter (cnd ms x)).map (fun high => [x, high]) ++ _
      rw [filter_none fun y _ => by unfold cnd; rw [ho]; rfl]
      rfl
    | false =>
      rw [List.filter_cons, if_pos (by rw [ho]; rfl), List.flatMap_cons, ih]
      show _ = (r.filter (cnd ms x)).map (fun high => [x, high]) ++ _
      congr 1
      unfold pairsAt
      rw [List.filter_map, List.filter_filter, List.filter_filter]
      congr 1
      rw [e, List.filter_append, List.filter_cons]
      have h1 : pre.filter (fun a => ((hasM ms ∘ fun high => [x, high]) a && decide (x.1 < a.1)) && !aM ms a) = [] := filter_none fun y hy => by
        have := hc y hy x List.mem_cons_self
        rw [decide_eq_false (by omega), Bool.and_false, Bool.false_and]
      rw [h1, if_neg (by rw [decide_eq_false (by omega), Bool.and_false, Bool.false_and]; decide), List.nil_append]
      refine filt_congr fun y hy => ?_
      have hxy := hx y hy
      unfold cnd
      rw [ho]
      have : decide (x.1 < y.1) = !decide (x.1 = y.1) := by
        rw [Bool.eq_iff_iff, decide_eq_true_eq, Bool.not_eq_true', decide_eq_false_iff_not]
        omega
      rw [this]
      show ((hasM ms [x, y] && !decide (x.1 = y.1)) && !aM ms y) = (!false && (!aM ms y && (!decide (x.1 = y.1) && hasM ms [x, y])))
      cases hasM ms [x, y] <;> cases aM ms y <;> cases decide (x.1 = y.1) <;> rfl
theorem rules_eq {n : Nat} {ms : List Int} {lots : List (List Int)} (h : LotsAre n ms lots) : rulesU lots n = sharpU ms n := by
  have e1 : ∀ s ∈ allS n, hasR lots [s] = aM ms s := fun s hs => by
    rw [hasR_eq h fun t ht => by rw [List.mem_singleton.mp ht]; exact allS_lt hs, hasM_one]
  have eS : singleS lots n = (allS n).filter (aM ms) := filt_congr e1
  have eO : opensS lots n = (allS n).filter fun s => !aM ms s := filt_congr fun s hs => by rw [e1 s hs]
  unfold rulesU sharpU
  rw [eS, eO, List.filter_flatMap]
  congr 1
  rw [← allS_len n]
  have e2 := tl_range (fun low r => (r.filter (cnd ms low)).map fun high => [low, high]) (allS n)
  have e3 : (List.range (allS n).length).flatMap (rowAt ms (allS n)) = tl (fun low r => (r.filter (cnd ms low)).map fun high => [low, high]) (allS n) := by
    rw [← e2]
    refine flat_congr fun i _ => ?_
    unfold rowAt
    cases (allS n)[i]? <;> rfl
  rw [e3, ← pairs_tl (allS n) [] (allS n) rfl (allS_le n)]
  refine flat_congr fun low hlow => filt_congr fun b hb => hasR_eq h fun s hs => ?_
  unfold pairsAt at hb
  obtain ⟨t, ht, rfl⟩ := List.mem_map.mp hb
  simp only [List.mem_cons, List.not_mem_nil, or_false] at hs
  rcases hs with rfl | rfl
  · exact allS_lt (List.mem_filter.mp hlow).1
  · exact allS_lt (List.mem_filter.mp (List.mem_filter.mp ht).1).1
theorem rulesD_eq {n : Nat} {ms : List Int} {lots : List (List Int)} (h : LotsAre n ms lots) : rulesD lots n = sharpD ms n := by
  unfold rulesD sharpD
  rw [rules_eq h]
theorem tabOf_are {n : Nat} {ms : List Int} {L : Lots} (h : TabOf n ms L) : LotsAre n ms (L.map (·.2)) := ⟨fun x hx => by
  obtain ⟨p, hp, rfl⟩ := List.mem_map.mp hx
  exact h.1 p hp, h.2.1⟩
theorem are_perm {n : Nat} {ms ms' : List Int} {lots : List (List Int)} (p : ms'.Perm ms) (h : LotsAre n ms' lots) : LotsAre n ms lots := ⟨fun x hx => by
  obtain ⟨m, hm, e⟩ := h.1 x hx
  exact ⟨m, p.mem_iff.mp hm, e⟩, fun m hm => h.2 m (p.mem_iff.mpr hm)⟩
/-! the lots, told twice -/
theorem bits_inj : ∀ (n : Nat) (m m' : Int), 0 ≤ m → m < 2 ^ n → 0 ≤ m' → m' < 2 ^ n → (∀ k < n, m / 2 ^ k % 2 = m' / 2 ^ k % 2) → m = m'
  | 0, m, m', h1, h2, h3, h4, _ => by
    simp at h2 h4
    omega
  | n + 1, m, m', h1, h2, h3, h4, h => by
    have e : (2 : Int) ^ (n + 1) = 2 ^ n * 2 := Int.pow_succ _ _
    have h0 := h 0 (by omega)
    simp only [Int.pow_zero, Int.ediv_one] at h0
    have ih := bits_inj n (m / 2) (m' / 2) (by omega) (by omega) (by omega) (by omega) fun k hk => by
      have := h (k + 1) (by omega)
      rw [show (2 : Int) ^ (k + 1) = 2 * 2 ^ k by rw [Int.pow_succ, Int.mul_comm]] at this
      rw [Int.ediv_ediv_of_nonneg (by decide), Int.ediv_ediv_of_nonneg (by decide)]
      exact this
    omega
theorem lot_inj {n : Nat} {m m' : Int} (h1 : 0 ≤ m) (h2 : m < 2 ^ n) (h3 : 0 ≤ m') (h4 : m' < 2 ^ n) (e : lotOf m n = lotOf m' n) : m = m' := by
  refine bits_inj n m m' h1 h2 h3 h4 fun k hk => ?_
  have hb : ∀ {a : Int}, bitB a k = true ↔ (k : Int) ∈ lotOf a n := fun {a} => by
    rw [lot_mem]
    constructor
    · intro h
      exact ⟨k, hk, h, rfl⟩
    · rintro ⟨j, _, h, e⟩
      rw [show k = j by omega]
      exact h
  have h : bitB m k = true ↔ bitB m' k = true := by rw [hb, hb, e]
  unfold bitB at h
  rw [decide_eq_true_eq, decide_eq_true_eq] at h
  have c1 := Int.emod_two_eq (m / 2 ^ k)
  have c2 := Int.emod_two_eq (m' / 2 ^ k)
  omega
theorem lex_strict {xs ys : List Int} (h : HT.lexLt ys xs = false) (n : xs ≠ ys) : HT.lexLt xs ys = true := by
  rw [lex_list] at h ⊢
  rw [decide_eq_false_iff_not] at h
  rw [decide_eq_true_eq]
  exact Decidable.byContradiction fun c => n (List.le_antisymm (List.not_lt.mp h) (List.not_lt.mp c))
theorem lex_asymm (xs ys : List Int) (h : HT.lexLt xs ys = true) (h' : HT.lexLt ys xs = true) : False := by
  rw [lex_list, decide_eq_true_eq] at h h'
  exact List.lt_asymm h h'
theorem lots_strict {l : List (List Int)} (h : l.Pairwise fun x y => HT.lexLt y x = false) (n : l.Nodup) : l.Pairwise fun x y => HT.lexLt x y = true := List.Pairwise.imp₂ (fun a b p q => lex_strict p q) h n
theorem dLe_lots (xs ys : List Int) : dLe (tupD xs) (tupD ys) = !HT.lexLt ys xs := by
  rw [← lt_tupD]
  rfl
theorem dLe_pw (ds : List PyData) : (ds.mergeSort dLe).Pairwise fun x y => dLe x y = true := by
  have T := PySem.W.sortLe_total (PyProof.Rows.listOrd PyProof.Rows.itemOrd) false (fun b : PyData => PySem.W.keyToks b)
  have e : dLe = PySem.W.sortLe (PyProof.Rows.listOrd PyProof.Rows.itemOrd) false (fun b : PyData => PySem.W.keyToks b) := rfl
  rw [e]
  exact List.pairwise_mergeSort (fun a b c h1 h2 => T.trans a b c h1 h2) (fun a b => by rcases T.total a b with h | h <;> simp [h]) ds
theorem lots_told {n : Nat} {ms : List Int} {L : Lots} (h : TabOf n ms L) (hm : masksOk n ms) : (ms.map fun m => tupD (lotOf m n)).mergeSort dLe = (L.map (·.2)).map tupD := by
  have pm := List.mergeSort_perm (ms.map fun m => tupD (lotOf m n)) dLe
  have pw := dLe_pw (ms.map fun m => tupD (lotOf m n))
  have em : (ms.map fun m => tupD (lotOf m n)) = (ms.map fun m => lotOf m n).map tupD := by rw [List.map_map]; rfl
  generalize (ms.map fun m => tupD (lotOf m n)).mergeSort dLe = Z at pm pw
  rw [em] at pm
  obtain ⟨W, pW, rfl⟩ := perm_back pm
  congr 1
  have nd : (ms.map fun m => lotOf m n).Nodup := by
    unfold List.Nodup
    rw [List.pairwise_map]
    refine List.Pairwise.imp_of_mem (fun {a b} ha hb (hn : a ≠ b) e => hn ?_) (up_nodup hm.1)
    obtain ⟨a1, a2⟩ := hm.2.2 a ha
    obtain ⟨b1, b2⟩ := hm.2.2 b hb
    exact lot_inj a1 a2 b1 b2 e
  rw [List.pairwise_map] at pw
  refine strict_ext lex_asymm (lots_strict (pw.imp fun {x y} q => ?_) (pW.nodup_iff.mpr nd)) (lots_strict (by rw [List.pairwise_map]; exact h.2.2.2) h.2.2.1) fun z => ?_
  · rw [dLe_lots] at q
    rw [Bool.not_eq_true'] at q
    exact q
  · rw [pW.mem_iff, List.mem_map]
    constructor
    · rintro ⟨m, hm', rfl⟩
      exact h.2.1 m hm'
    · intro hz
      obtain ⟨p, hp, rfl⟩ := List.mem_map.mp hz
      obtain ⟨m, hm', e⟩ := h.1 p hp
      exact ⟨m, hm', e.symm⟩
end TW
set_option Elab.async false
set_option linter.all false
set_option maxRecDepth 100000
set_option maxHeartbeats 4000000
namespace TW
open PySem PySem.Spec PyProof.Rows L2
/-! alike by parts -/
theorem rep_list {k : Nat} {H : Hp} {x y : V} {ds : List PyData} (hx : At H x (.list ds)) (hy : At H y (.list ds)) (hl : ds.length ≤ 10000) (h : ∀ d ∈ ds, ∀ x y, At H x d → At H y d → Rep k H x y) : Rep (k + 1) H x y := by
  obtain ⟨a, xs, rfl, ha, hxs⟩ := hx.isL
  obtain ⟨b, ys, rfl, hb, hys⟩ := hy.isL
  refine .inr ⟨a, b, xs, ys, rfl, rfl, .inl ⟨ha, hb⟩, hxs.1.trans hys.1.symm, by rw [hys.1]; exact hl, fun i u v hu hv => ?_⟩
  obtain ⟨d, hd, hA⟩ := hxs.at' hu
  exact h d (List.mem_of_getElem? hd) u v hA (hys.2 i v d hv hd)
theorem rep_tuple {k : Nat} {H : Hp} {x y : V} {ds : List PyData} (hx : At H x (.tuple ds)) (hy : At H y (.tuple ds)) (hl : ds.length ≤ 10000) (h : ∀ d ∈ ds, ∀ x y, At H x d → At H y d → Rep k H x y) : Rep (k + 1) H x y := by
  obtain ⟨a, xs, rfl, ha, hxs⟩ := hx.isT
  obtain ⟨b, ys, rfl, hb, hys⟩ := hy.isT
  refine .inr ⟨a, b, xs, ys, rfl, rfl, .inr ⟨ha, hb⟩, hxs.1.trans hys.1.symm, by rw [hys.1]; exact hl, fun i u v hu hv => ?_⟩
  obtain ⟨d, hd, hA⟩ := hxs.at' hu
  exact h d (List.mem_of_getElem? hd) u v hA (hys.2 i v d hv hd)
theorem rep_sgn {H : Hp} {x y : V} {s : Sgn} (hx : At H x (dSgn s)) (hy : At H y (dSgn s)) : Rep 1 H x y := by
  refine rep_tuple hx hy (by show 2 ≤ 10000; decide) fun d hd u v hu hv => ?_
  simp only [List.mem_cons, List.not_mem_nil, or_false] at hd
  rcases hd with rfl | rfl
  · rw [hu.isI, hv.isI]
    exact Rep.flat rfl
  · rw [hu.isS, hv.isS]
    exact Rep.flat rfl
theorem rep_bar {H : Hp} {x y : V} {b : Bar} (hl : b.length ≤ 100) (hx : At H x (dBar b)) (hy : At H y (dBar b)) : Rep 2 H x y := by
  refine rep_tuple hx hy (by rw [List.length_map]; omega) fun d hd u v hu hv => ?_
  obtain ⟨s, _, rfl⟩ := List.mem_map.mp hd
  exact rep_sgn hu hv
theorem rep_sharp {H : Hp} {x y : V} {ms : List Int} {n : Nat} (hn : n ≤ 6) (hx : At H x (.list (sharpD ms n))) (hy : At H y (.list (sharpD ms n))) : Rep 3 H x y := by
  have pm : (sharpD ms n).Perm ((sharpU ms n).map dBar) := List.mergeSort_perm _ _
  have hl : (sharpU ms n).length ≤ 12 + 12 * 12 := by
    unfold sharpU
    rw [List.length_append, List.length_map]
    have h1 := List.length_filter_le (aM ms) (allS n)
    have al := allS_len n
    have h2 := flat_len (f := rowAt ms (allS n)) (k := 12) (l := List.range (2 * n)) fun s _ => Nat.le_trans (rowAt_len ms _ s) (by omega)
    rw [List.length_range] at h2
    omega
  refine rep_list hx hy (by rw [pm.length_eq, List.length_map]; omega) fun d hd u v hu hv => ?_
  obtain ⟨b, hb, rfl⟩ := List.mem_map.mp (pm.mem_iff.mp hd)
  refine rep_bar ?_ hu hv
  unfold sharpU at hb
  rcases List.mem_append.mp hb with h | h
  · obtain ⟨s, _, rfl⟩ := List.mem_map.mp h
    show 1 ≤ 100
    decide
  · obtain ⟨i, _, h2⟩ := List.mem_flatMap.mp h
    obtain ⟨s, t, rfl⟩ := rowAt_pair h2
    show 2 ≤ 100
    decide
theorem rep_lots {H : Hp} {x y : V} {ls : List (List Int)} (hl : ls.length ≤ 1000) (hb : ∀ l ∈ ls, l.length ≤ 1000) (hx : At H x (.list (ls.map tupD))) (hy : At H y (.list (ls.map tupD))) : Rep 2 H x y := by
  refine rep_list hx hy (by rw [List.length_map]; omega) fun d hd u v hu hv => ?_
  obtain ⟨l, h, rfl⟩ := List.mem_map.mp hd
  refine rep_tuple hu hv (by rw [List.length_map]; have := hb l h; omega) fun d hd u v hu hv => ?_
  obtain ⟨i, _, rfl⟩ := List.mem_map.mp hd
  rw [hu.isI, hv.isI]
  exact Rep.flat rfl
theorem at_lot {H : Hp} {a : Addr} {ns : List Int} (h : H a = some (.tup (ns.map V.int))) : At H (.ref a) (tupD ns) := At.mkT h (Ats.map_ fun i _ => .int i)
/-! masks -/
theorem up_len : ∀ {ns : List Int} {lo : Int} {k : Nat}, Up ns → (∀ z ∈ ns, lo ≤ z ∧ z < lo + k) → ns.length ≤ k
  | [], _, _, _, _ => Nat.zero_le _
  | x :: r, lo, k, u, h => by
    have c := List.pairwise_cons.mp u
    have hx := h x List.mem_cons_self
    cases k with
    | zero => omega
    | succ k =>
      have := up_len (ns := r) (lo := lo + 1) (k := k) c.2 fun z hz => by
        have h1 := c.1 z hz
        have h2 := h z (List.mem_cons_of_mem _ hz)
        omega
      rw [List.length_cons]
      omega
theorem masks_len {n : Nat} {ms : List Int} (hn : 0 < n) (hn' : n ≤ 6) (h : masksOk n ms) : ms.length ≤ 64 := by
  obtain ⟨b, hb1, hb2, hb0, hb64⟩ := pow_small hn hn'
  refine Nat.le_trans (up_len (lo := 0) (k := b) h.1 fun z hz => ?_) hb64
  have := h.2.2 z hz
  rw [← hb1, Int.one_mul]
  omega
theorem masks_sub {n : Nat} {ms ms' : List Int} (h : masksOk n ms) (s : ms'.Sublist ms) (ne : ms' ≠ []) : masksOk n ms' := ⟨List.Pairwise.sublist s h.1, ne, fun m hm => h.2.2 m (s.subset hm)⟩
theorem cut_to {xs : List V} {r : Nat} (h : r ≤ xs.length) : cutV xs none (some (r : Int)) = xs.take r := by
  unfold cutV
  rw [HT.sIx_nat, HT.sIx_none]
  simp [Nat.min_eq_left h]
theorem cut_last {xs : List V} (h : 0 < xs.length) : cutV xs (some (-1)) none = xs.drop (xs.length - 1) := by
  unfold cutV
  rw [HT.sIx_none]
  have e : HT.sIx xs.length 0 (some (-1)) = xs.length - 1 := by
    unfold HT.sIx
    simp
    omega
  rw [e]
  exact List.take_of_length_le (by rw [List.length_drop]; omega)
end TW
set_option Elab.async false
set_option linter.all false
set_option maxRecDepth 100000
set_option maxHeartbeats 4000000
namespace TW
open PySem PySem.Spec PyProof.Rows L2
def lotP (ns : List Int) : Prop := lotOk ns
/-- the things of a part ascend -/
def ascB (b : Bar) : Bool := asc (b.map fun s : Sgn => (s.1 : Int))
def insB (b : Bar) (t : Option Int) : Bool := b.all fun s => inThings (s.1 : Int) t
section
variable {P : Program} {w : World} {K : PySem.W.Frag} {mg : Str → Option Value} {base : Heap} {C : Addr}
/-! is_ascending, of a list of ints -/
def spIsAscL (K : PySem.W.Frag) : Sp := fun vs H Q _ => ∃ (t : Addr) (ns : List Int), vs = [.ref t] ∧ SqL K H t (ns.map V.int) ∧ ns.length ≤ 1000 ∧ ∀ H', Ex H H' → Q (.bl (asc ns)) H'
theorem ok_is_ascendingL (D : Dfn K mg "is_ascending" s_is_ascending ["values"]) (z : Z mg) : Ok P w K mg base 1 "is_ascending" ["values"] (spIsAscL K) := D.ok fun f fd F => by
  refine F.ok sc_is_ascending (fun vs H Q E h => ?_) (fun cdv A outer s H vs Q E hr h => ?_)
  · obtain ⟨i, t, rfl, _⟩ := h
    rfl
  · obtain ⟨t, ns, rfl, hT, hl, q⟩ := h
    refine ⟨_, (pss_one (ps_ret (pe_callB (cr_all rfl) (by rfl) z.all (by decide +kernel) (pa_cons (pe_lc (own := [("low", 1), ("high", 2)]) (g := gTup K 2 (gCons (gName 1) (gCons (gName 2) gNil))) rfl sc_is_ascending.nd (RZ.pi_zipA (by rfl) z.zip (pa_cons (pv 0) (pa_cons (pe_slice sl_list (pv 0) (po_some pe_int) po_none) pa_nil))) (blkOk_by (N := ["values", "low", "high"]) (own := [("low", 1), ("high", 2)]) (sc := defScope s_is_ascending) (by decide +kernel)) (fun _ _ _ _ _ => pg_tup rfl (pgs_cons (pg_name (i := 1) sc_is_ascending.nd rfl (Or.inl rfl)) (pgs_cons (pg_name (i := 2) sc_is_ascending.nd rfl (Or.inl rfl)) (pgs_nil)))) (fun _ _ _ _ _ => pts_nil) (fun _ _ _ _ _ => (pe_cmpR op_lt (pv 1) (pv 2) (nomark _)))) pa_nil)))), ?_⟩
    have i0 : HT.sIx (ns.map V.int).length 0 (some 1) = min 1 (ns.map V.int).length := HT.sIx_nat _ 0 1
    have e1 : cutV (ns.map V.int) (some 1) none = (ns.drop 1).map V.int := by
      unfold cutV
      rw [i0, HT.sIx_none, List.map_drop]
      cases ns with
      | nil => rfl
      | cons x r =>
        rw [show min 1 (List.map V.int (x :: r)).length = 1 by rw [List.map_cons, List.length_cons]; omega]
        rw [← List.length_drop, List.take_length]
    refine ⟨_, rfl, _, rfl, _, rfl, t, ns.map V.int, rfl, hT, fun p hp => ?_⟩
    rw [e1]
    have x1 : Ex H (upd H p (.lst ((ns.drop 1).map V.int))) := Evl.Ex.new hp
    have hp2 : (upd H p (.lst ((ns.drop 1).map V.int))) p = some (.lst ((ns.drop 1).map V.int)) := upd_same
    generalize upd H p (.lst ((ns.drop 1).map V.int)) = H1 at x1 hp2
    refine ⟨t, p, ns.map V.int, (ns.drop 1).map V.int, rfl, .inl ⟨Evl.ex_l x1 hT, Evl.sq_of hp2, fun Dl hD => ?_⟩⟩
    refine lc_it (walk_zip (adj_len ns)) (fun i H' => Ex H1 H' ∧ H' Dl = some (.lst (((adj ns).take i).map V.bl))) ⟨Evl.Ex.new hD, by rw [upd_same]; rfl⟩ (fun i H' _ p => ⟨Evl.ex_l (x1.trans p.1) hT, Evl.sq_of (p.1 _ _ hp2)⟩) ?_ (fun H' p => ?_)
    · rintro i x H2 H3 hi ⟨x2, hL⟩ ⟨T, u, v, rfl, nT, rfl, hu, hv⟩
      obtain ⟨p, q2, rfl, rfl, ha⟩ := adj_get hu hv
      refine ⟨T, _, rfl, Evl.st_of upd_same, rfl, _, _, rfl, _, _, rfl, rfl, rfl, ?_⟩
      refine ⟨_, rfl, _, rfl, _, _, rfl, rfl, _, Eq.trans (upd_ne (ne_of_none hL nT)) hL, szl ?_, ?_, ?_⟩
      · rw [List.length_map, List.length_take]
        have := adj_len ns
        rw [List.length_map] at this
        omega
      · exact Evl.Ex.mut (x2.trans (Evl.Ex.new nT)) hD
      · rw [upd_same, take_snoc ha, List.map_append]
        rfl
    · obtain ⟨x2, h2⟩ := p
      rw [List.take_length] at h2
      refine ⟨Dl, adj ns, rfl, Evl.sq_of h2, ?_⟩
      rw [adj_asc]
      exact q H' (x1.trans x2)
def spIsLiteral : Sp := fun vs H Q _ => ∃ (v : V) (s : Sgn) (t : Option Int), vs = [v, thV t] ∧ At H v (dSgn s) ∧ ∀ H', Ex H H' → Q (.bl (inThings (s.1 : Int) t)) H'
def spCheckLiteral : Sp := fun vs H Q _ => ∃ (v : V) (s : Sgn) (t : Option Int), vs = [v, thV t] ∧ At H v (dSgn s) ∧ inThings (s.1 : Int) t = true ∧ ∀ H', Ex H H' → Q .non H'
def spIsPart : Sp := fun vs H Q _ => ∃ (v : V) (b : Bar) (t : Option Int), vs = [v, thV t] ∧ At H v (dBar b) ∧ b.length ≤ 1000 ∧ insB b t = true ∧ ascB b = true ∧ ∀ H', Ex H H' → Q (.bl true) H'
def spCheckPart : Sp := fun vs H Q _ => ∃ (v : V) (b : Bar) (t : Option Int), vs = [v, thV t] ∧ At H v (dBar b) ∧ b.length ≤ 1000 ∧ insB b t = true ∧ ascB b = true ∧ ∀ H', Ex H H' → Q .non H'
end
end TW
set_option Elab.async false
set_option linter.all false
set_option maxRecDepth 100000
set_option maxHeartbeats 4000000
namespace TW
open PySem PySem.Spec PyProof.Rows L2
def LotsOk (L : Lots) : Prop := ∀ p ∈ L, lotOk p.2
def fitL (L : Lots) (b : Bar) : List (Addr × List Int) := L.filter fun p => b.all (mt p.2)
section
variable {P : Program} {w : World} {K : PySem.W.Frag} {mg : Str → Option Value} {base : Heap} {C : Addr}
def spContrary : Sp := fun vs H Q _ => ∃ (G : Hp) (l : List (Addr × HO)) (v : V) (s : Sgn), vs = [v] ∧ Has G H l ∧ At G v (dSgn s) ∧ ∀ (G' H' : Hp) (x : V), Ex G G' → Has G' H' l → At G' x (dSgn (s.1, !s.2)) → Q x H'
theorem sw_not (b : Bool) : (if decide (V.str (sw b) = V.str "in") = true then V.str "out" else V.str "in") = V.str (sw (!b)) := by
  rw [sw_in]
  cases b <;> rfl
def spFits (K : PySem.W.Frag) : Sp := fun vs H Q _ => ∃ (a : Addr) (ns : List Int) (v : V) (b : Bar), vs = [.ref a, v] ∧ SqT K H a (ns.map V.int) ∧ lotOk ns ∧ At H v (dBar b) ∧ b.length ≤ 1000 ∧ ascB b = true ∧ ∀ H', Ex H H' → Q (.bl (b.all (mt ns))) H'
theorem ins_none (b : Bar) : insB b none = true := List.all_eq_true.mpr fun _ _ => rfl
def spFitting (C : Addr) : Sp := fun vs H Q _ => ∃ (a : Addr) (n : Nat) (L : Lots) (v : V) (b : Bar), vs = [.ref a, v] ∧ TabAt C H a n L ∧ LotsOk L ∧ L.length ≤ 1000 ∧ At H v (dBar b) ∧ b.length ≤ 1000 ∧ ascB b = true ∧
  ∀ (t : Addr) (H' : Hp), H t = none → Ex H H' → H' t = some (.lst (refs (fitL L b))) → Q (.ref t) H'
def canB (lots : List (List Int)) (b : Bar) : Bool := lots.any fun ns => b.all (mt ns)
def spCanBe (C : Addr) : Sp := fun vs H Q _ => ∃ (a : Addr) (n : Nat) (L : Lots) (v : V) (b : Bar), vs = [.ref a, v] ∧ TabAt C H a n L ∧ LotsOk L ∧ L.length ≤ 1000 ∧ At H v (dBar b) ∧ b.length ≤ 1000 ∧ insB b (some (n : Int)) = true ∧ ascB b = true ∧ ∀ H', Ex H H' → Q (.bl (canB (L.map (·.2)) b)) H'
theorem can_len (L : Lots) (b : Bar) : decide (((fitL L b).length : Int) > 0) = canB (L.map (·.2)) b := by
  unfold canB fitL
  rw [Bool.eq_iff_iff, decide_eq_true_eq, List.any_map, List.any_eq_true]
  constructor
  · intro h
    obtain ⟨p, hp⟩ := List.exists_mem_of_length_pos (l := L.filter fun p => b.all (mt p.2)) (by omega)
    exact ⟨p, (List.mem_filter.mp hp).1, (List.mem_filter.mp hp).2⟩
  · rintro ⟨p, hp, hq⟩
    have := List.length_pos_of_mem (List.mem_filter.mpr ⟨hp, hq⟩ : p ∈ L.filter fun p => b.all (mt p.2))
    omega
def spMetAll : Sp := fun vs H Q _ => ∃ (m : Int) (v : V) (b : Bar), vs = [.int m, v] ∧ At H v (dBar b) ∧ b.length ≤ 1000 ∧ ∀ H', Ex H H' → Q (.bl (b.all (met m))) H'
def spLawFitting (K : PySem.W.Frag) : Sp := fun vs H Q _ => ∃ (a : Addr) (ms : List Int) (v : V) (b : Bar), vs = [.ref a, v] ∧ SqL K H a (ms.map V.int) ∧ ms.length ≤ 1000 ∧ At H v (dBar b) ∧ b.length ≤ 1000 ∧
  ∀ (t : Addr) (H' : Hp), H t = none → Ex H H' → H' t = some (.lst ((ms.filter fun m => b.all (met m)).map V.int)) → Q (.ref t) H'
end
end TW
set_option Elab.async false
set_option linter.all false
set_option maxRecDepth 100000
set_option maxHeartbeats 4000000
namespace TW
open PySem PySem.Spec PyProof.Rows L2
/-- things ascend -/
def UpB (b : Bar) : Prop := b.Pairwise fun s t => s.1 < t.1
theorem upB_asc {b : Bar} (h : UpB b) : ascB b = true := by
  unfold ascB
  refine up_asc ?_
  unfold Up
  rw [List.pairwise_map]
  exact h.imp fun q => by omega
theorem upB_snoc {b : Bar} {s : Sgn} (h : UpB b) (l : ∀ t ∈ b, t.1 < s.1) : UpB (b ++ [s]) := by
  unfold UpB
  rw [List.pairwise_append]
  exact ⟨h, List.pairwise_singleton _ _, fun t ht u hu => by rw [List.mem_singleton.mp hu]; exact l t ht⟩
theorem ins_lt {b : Bar} {n : Nat} (h : ∀ s ∈ b, s.1 < n) : insB b (some (n : Int)) = true := List.all_eq_true.mpr fun s hs => decide_eq_true (by have := h s hs; omega)
/-- a literal of the k-th thing is told, or not -/
def tPick (lo : Bool) : TS := fun D σ H => ∃ (k dr : Nat) (held : Int) (o : Addr) (ys : List V) (G : Hp) (l : List (Addr × HO)), σ[3]? = some (some (.int held)) ∧ σ[4]? = some (some (.bl lo)) ∧ σ[5]? = some (some (.ref o)) ∧ σ[6]? = some (some (.int k)) ∧ σ[7]? = some (some (.int dr)) ∧
  Has G H ((o, .lst ys) :: l) ∧ ys.length ≤ 1000 ∧ D.nx σ H ∧ ∀ (b : Bool) (G' H' : Hp) (x : V), Ex G G' → Has G' H' ((o, .lst (ys ++ [x])) :: l) → At G' x (dSgn (k, b)) → D.nx σ H'
section
variable {P : Program} {w : World} {K : PySem.W.Frag} {mg : Str → Option Value} {base : Heap} {C : Addr}
def spSomePart : Sp := fun vs H Q _ => ∃ (G : Hp) (l : List (Addr × HO)) (p a : Addr) (o : HO) (k n : Nat) (ms : List Int), vs = [.ref p, .int n, .ref a] ∧ Has G H ((p, o) :: l) ∧ WellO k o ∧ k < 10 ^ 7 ∧ n ≤ 1000 ∧ G a = some (.lst (ms.map V.int)) ∧ ms ≠ [] ∧ ms.length ≤ 1000 ∧
  ∀ (G' H' : Hp) (o' : HO) (x : V) (b : Bar), Ex G G' → Has G' H' ((p, o') :: l) → WellO (k + 1002) o' → At G' x (dBar b) → b.length ≤ n → (∀ s ∈ b, s.1 < n) → UpB b → Q x H'
end
end TW
set_option Elab.async false
set_option linter.all false
set_option maxRecDepth 100000
set_option maxHeartbeats 4000000
namespace TW
open PySem PySem.Spec PyProof.Rows L2
/-! NoLot -/
structure TN (K : PySem.W.Frag) (mg : Str → Option Value) (x : Str) (N : Addr) : Prop where
  g : mg x = some (.ref N)
  ex : PySem.W.excIn K N [.type "ValueError", .type "Exception", .type "BaseException", .type "object"] "ValueError.__new__" = true
  k : PySem.W.keepIn K (.ref N) = true
  b : PySem.W.subIn K (.ref N) (.type "BaseException") = some true
  t : PySem.W.typeIn K (.ref N) = some (.type "type")
  e : PySem.W.exmOne K (.ref N) (.ref N) = some true
def closL (ls : Lots) (n : Nat) : Bar := (allS n).filter fun s => ls.all fun p => mt p.2 s
section
variable {P : Program} {w : World} {K : PySem.W.Frag} {mg : Str → Option Value} {base : Heap} {C N : Addr}
abbrev NC : List Str := ["table", "part", "lots", "literals", "lot", "literal"]
def scLit : Scope := { kind := .function, names := [(".0", .local), ("literal", .cell), ("all", .globalImplicit), ("lots", .cell)], isGenerator := false, isCoroutine := false }
def spClosure (C N : Addr) : Sp := fun vs H Q E => ∃ (G : Hp) (l : List (Addr × HO)) (a : Addr) (n : Nat) (L : Lots) (v : V) (b : Bar), vs = [.ref a, v] ∧ Has G H l ∧ TabAt C G a n L ∧ LotsOk L ∧ L.length ≤ 1000 ∧ n ≤ 1000 ∧ At G v (dBar b) ∧ b.length ≤ 1000 ∧ insB b (some (n : Int)) = true ∧ ascB b = true ∧
  (fitL L b = [] → ∀ H', Has G H' l → E (.ref N) none H') ∧ (fitL L b ≠ [] → ∀ (G' H' : Hp) (x : V), Ex G G' → Has G' H' l → At G' x (dBar (closL (fitL L b) n)) → Q x H')
end
end TW
set_option Elab.async false
set_option linter.all false
set_option maxRecDepth 100000
set_option maxHeartbeats 4000000
namespace TW
open PySem PySem.Spec PyProof.Rows L2
section
variable {X : Cx} {K : PySem.W.Frag}
theorem op_catAK (h : X.K = K := by rfl) : OpR X (binaryOp .Add) (rCatA K) := by
  subst h
  exact op_catA
end
theorem Has.down {G G' H : Hp} {l : List (Addr × HO)} (e : Ex G G') (h : Has G' H l) : Has G H l := ⟨e.trans h.ex, fun q hq => ⟨Evl.fresh_back e (h.own q hq).1, (h.own q hq).2⟩, h.nd⟩
theorem At.lot {H : Hp} {v : V} {ns : List Int} (h : At H v (tupD ns)) : ∃ a, v = .ref a ∧ H a = some (.tup (ns.map V.int)) := by
  obtain ⟨a, xs, rfl, ha, hx⟩ := At.isT h
  have e : xs = ns.map V.int := by
    clear ha h
    induction ns generalizing xs with
    | nil => exact List.length_eq_zero_iff.mp hx.1
    | cons n ns ih =>
      cases xs with
      | nil => cases hx.1
      | cons x xs =>
        obtain rfl := hx.head.isI
        rw [ih xs hx.rest]
        rfl
  rw [e] at ha
  exact ⟨a, rfl, ha⟩
theorem lots_of_ats {G : Hp} : ∀ {xs : List V} {ls : List (List Int)}, Ats G xs (ls.map tupD) → ∃ ks : Lots, xs = refs ks ∧ InLots G ks ∧ ks.map (·.2) = ls
  | [], [], _ => ⟨[], rfl, fun p hp => absurd hp List.not_mem_nil, rfl⟩
  | [], _ :: _, h => by cases h.1
  | _ :: _, [], h => by cases h.1
  | x :: xs, l :: ls, h => by
    obtain ⟨a, rfl, ha⟩ := At.lot h.head
    obtain ⟨ks, e, hk, el⟩ := lots_of_ats (xs := xs) (ls := ls) h.rest
    refine ⟨(a, l) :: ks, by rw [e]; rfl, fun p hp => ?_, by rw [List.map_cons, el]⟩
    rcases List.mem_cons.mp hp with rfl | hp
    · exact ha
    · exact hk p hp
/-! all lots, as the program makes them -/
def lotsL : Nat → List (List Int)
  | 0 => [[]]
  | n + 1 => lotsL n ++ (lotsL n).map (· ++ [(n : Int)])
theorem lotsL_len (n : Nat) : (lotsL n).length = 2 ^ n := by
  induction n with
  | zero => rfl
  | succ n ih =>
    show (lotsL n ++ (lotsL n).map _).length = _
    rw [List.length_append, List.length_map, ih, Nat.pow_succ]
    omega
theorem bit_low {m : Nat} {n : Nat} (h : m < 2 ^ n) : bitB (m : Int) n = false := by
  unfold bitB
  have e : ((m : Int) / 2 ^ n) = 0 := Int.ediv_eq_zero_of_lt (by omega) (by exact_mod_cast h)
  rw [e]
  decide
theorem bit_high {m : Nat} {n : Nat} (h : m < 2 ^ n) : bitB ((2 ^ n + m : Nat) : Int) n = true := by
  unfold bitB
  have p : (0 : Int) < 2 ^ n := Int.pow_pos (by decide)
  have e : (((2 ^ n + m : Nat) : Int) / 2 ^ n) = 1 := by
    have e1 : ((2 ^ n + m : Nat) : Int) = (m : Int) + 2 ^ n := by push_cast; omega
    rw [e1, Int.add_ediv_of_dvd_right (Int.dvd_refl _), Int.ediv_self (by omega), Int.ediv_eq_zero_of_lt (by omega) (by exact_mod_cast h)]
    rfl
  rw [e]
  decide
theorem bit_same {m : Nat} {n k : Nat} (h : k < n) : bitB ((2 ^ n + m : Nat) : Int) k = bitB (m : Int) k := by
  unfold bitB
  have p : (0 : Int) < 2 ^ k := Int.pow_pos (by decide)
  have e1 : ((2 ^ n + m : Nat) : Int) = (m : Int) + 2 ^ (n - k - 1) * 2 * 2 ^ k := by
    have : (2 : Int) ^ n = 2 ^ (n - k - 1) * 2 * 2 ^ k := by
      rw [← Int.pow_succ, ← Int.pow_add]
      congr 1
      omega
    push_cast
    omega
  rw [e1, Int.add_mul_ediv_right _ _ (by omega), Int.add_mul_emod_self_right]
theorem lot_same {m n w : Nat} (h : w ≤ n) : lotOf ((2 ^ n + m : Nat) : Int) w = lotOf (m : Int) w := by
  induction w with
  | zero => rfl
  | succ w ih => rw [lot_up, lot_up, ih (by omega), bit_same (by omega)]
theorem lotsL_eq (n : Nat) : lotsL n = (List.range (2 ^ n)).map fun m : Nat => lotOf (m : Int) n := by
  induction n with
  | zero => rfl
  | succ n ih =>
    show lotsL n ++ (lotsL n).map _ = _
    rw [show 2 ^ (n + 1) = 2 ^ n + 2 ^ n by rw [Nat.pow_succ]; omega, List.range_add, List.map_append, ih, List.map_map, List.map_map]
    congr 1
    · refine List.map_congr_left fun m hm => ?_
      rw [lot_up, bit_low (List.mem_range.mp hm), if_neg (by decide), List.append_nil]
    · refine List.map_congr_left fun m hm => ?_
      show lotOf (m : Int) n ++ [(n : Int)] = lotOf ((2 ^ n + m : Nat) : Int) (n + 1)
      rw [lot_up, bit_high (List.mem_range.mp hm), if_pos rfl, lot_same (Nat.le_refl n)]
def keptM (n : Nat) (bs : List Bar) : List Int := (rangeI (2 ^ n)).filter fun m => keptB m bs
def ruleP (n : Nat) (bs : List Bar) : Prop := ∀ b ∈ bs, barOk n b
theorem lots_kept {n : Nat} {bs : List Bar} (h : ruleP n bs) : (lotsL n).filter (fun ns => bs.all fun b => b.any (mt ns)) = (keptM n bs).map fun m => lotOf m n := by
  rw [lotsL_eq]
  unfold keptM rangeI
  rw [List.filter_map, List.filter_map, List.map_map]
  have e : (List.range (2 ^ n)).filter ((fun ns => bs.all fun b => b.any (mt ns)) ∘ fun m : Nat => lotOf (m : Int) n) = (List.range (2 ^ n)).filter ((fun m => keptB m bs) ∘ fun k : Nat => (k : Int)) := by
    refine filt_congr fun m hm => ?_
    show (bs.all fun b => b.any (mt (lotOf (m : Int) n))) = keptB (m : Int) bs
    unfold keptB
    rw [Bool.eq_iff_iff, List.all_eq_true, List.all_eq_true]
    constructor
    · intro q b hb
      rw [← any_mt (h b hb).2.2.1]
      exact q b hb
    · intro q b hb
      rw [any_mt (h b hb).2.2.1]
      exact q b hb
  rw [e]
  rfl
section
variable {P : Program} {w : World} {K : PySem.W.Frag} {mg : Str → Option Value} {base : Heap} {C N : Addr}
def spKeepsAll (K : PySem.W.Frag) : Sp := fun vs H Q _ => ∃ (a : Addr) (ns : List Int) (v : V) (bs : List Bar), vs = [.ref a, v] ∧ SqT K H a (ns.map V.int) ∧ At H v (dBars bs) ∧ (∀ b ∈ bs, b.length ≤ 100) ∧ ∀ H', Ex H H' → Q (.bl (bs.all fun b => b.any (mt ns))) H'
/-! all_lots -/
abbrev NAL : List Str := ["things", "lots", "thing", "lot"]
def spAllLots : Sp := fun vs H Q _ => ∃ (G : Hp) (l : List (Addr × HO)) (n : Nat), vs = [.int n] ∧ Has G H l ∧ n ≤ 6 ∧ ∀ (G' H' : Hp) (t : Addr) (xs : List V), Ex G G' → Has G' H' ((t, .lst xs) :: l) → Ats G' xs ((lotsL n).map tupD) → Q (.ref t) H'
theorem lotsL_small {i n : Nat} (h : i ≤ n) (hn : n ≤ 6) : 2 ^ i ≤ 64 := Nat.le_trans (Nat.pow_le_pow_right (by decide) h) (Nat.le_trans (Nat.pow_le_pow_right (by decide) hn) (by decide))
theorem lotsL_bound {n : Nat} : ∀ l ∈ lotsL n, l.length ≤ n := fun l hl => by
  rw [lotsL_eq] at hl
  obtain ⟨m, _, rfl⟩ := List.mem_map.mp hl
  exact lot_len _ _
def spIsRule : Sp := fun vs H Q _ => ∃ (v : V) (b : Bar) (n : Nat), vs = [v, .int n] ∧ At H v (dBar b) ∧ barOk n b ∧ ∀ H', Ex H H' → Q (.bl true) H'
theorem ascB_of {b : Bar} (h : b.Pairwise fun s t => s.1 < t.1) : ascB b = true := by
  unfold ascB
  refine up_asc ?_
  unfold Up
  rw [List.pairwise_map]
  exact h.imp fun q => by omega
theorem ins_of {n : Nat} {b : Bar} (h : ∀ s ∈ b, s.1 < n) : insB b (some (n : Int)) = true := by
  unfold insB
  rw [List.all_eq_true]
  intro s hs
  show decide ((s.1 : Int) < (n : Int)) = true
  exact decide_eq_true (by have := h s hs; omega)
def spCheckRules : Sp := fun vs H Q _ => ∃ (v : V) (bs : List Bar) (n : Nat), vs = [v, .int n] ∧ At H v (dBars bs) ∧ ruleP n bs ∧ bs.length ≤ 1000 ∧ ∀ H', Ex H H' → Q .non H'
/-! table_of -/
abbrev NTO : List Str := ["things", "rules", "lots", "lot"]
/-- a list that stands there as long as these things do -/
def Stays (G : Hp) (l : List (Addr × HO)) (a : Addr) (o : HO) : Prop := ∀ H', Has G H' l → H' a = some o
theorem Stays.down {G G' : Hp} {l l' : List (Addr × HO)} {a : Addr} {o : HO} (h : Stays G l a o) (e : Ex G G') (s : l.Sublist l') : Stays G' l' a o := fun H' S => h H' ((S.down e).sub s)
theorem Stays.cell {G : Hp} {l : List (Addr × HO)} {a : Addr} {o : HO} (i : Nat) (h : l[i]? = some (a, o)) : Stays G l a o := fun _ S => S.get i h
theorem Stays.grd {G : Hp} {l : List (Addr × HO)} {a : Addr} {o : HO} (h : G a = some o) : Stays G l a o := fun _ S => S.ex _ _ h
def spTableOf (C N : Addr) : Sp := fun vs H Q E => ∃ (G : Hp) (l : List (Addr × HO)) (n : Nat) (a : Addr) (xs : List V) (bs : List Bar), vs = [.int n, .ref a] ∧ Has G H l ∧ 0 < n ∧ n ≤ 6 ∧ Stays G l a (.lst xs) ∧ Ats G xs (bs.map dBar) ∧ ruleP n bs ∧ bs.length ≤ 1000 ∧
  (keptM n bs = [] → ∀ H', Has G H' l → E (.ref N) none H') ∧ (keptM n bs ≠ [] → ∀ (G' H' : Hp) (t : Addr) (L : Lots), Ex G G' → Has G' H' l → TabAt C G' t n L → TabOf n (keptM n bs) L → Q (.ref t) H')
theorem keptM_len {n : Nat} {bs : List Bar} (hn : n ≤ 6) : (keptM n bs).length ≤ 64 := by
  unfold keptM rangeI
  refine Nat.le_trans (List.length_filter_le _ _) ?_
  rw [List.length_map, List.length_range]
  exact lotsL_small (Nat.le_refl n) hn
end
end TW
set_option Elab.async false
set_option linter.all false
set_option maxRecDepth 100000
set_option maxHeartbeats 4000000
namespace TW
open PySem PySem.Spec PyProof.Rows L2
def dueD (n : Nat) (bs : List Bar) : List PyData := ((keptM n bs).map fun m => tupD (lotOf m n)).mergeSort dLe
theorem keptM_ok {n : Nat} {bs : List Bar} (h : keptM n bs ≠ []) : masksOk n (keptM n bs) := ⟨List.Pairwise.sublist List.filter_sublist (rangeI_up _), h, fun m hm => by
  have := rangeI_mem.mp ((List.mem_filter.mp hm).1)
  have e : ((2 ^ n : Nat) : Int) = (2 : Int) ^ n := by push_cast; rfl
  rw [← e]
  exact this⟩
section
variable {P : Program} {w : World} {K : PySem.W.Frag} {mg : Str → Option Value} {base : Heap} {C N : Addr}
/-! _law_lots_due -/
abbrev NLD : List Str := ["wide", "bars", "mask"]
def spLotsDue : Sp := fun vs H Q _ => ∃ (G : Hp) (l : List (Addr × HO)) (n : Nat) (a : Addr) (xs : List V) (bs : List Bar), vs = [.int n, .ref a] ∧ Has G H l ∧ 0 < n ∧ n ≤ 6 ∧ Stays G l a (.lst xs) ∧ Ats G xs (bs.map dBar) ∧ ruleP n bs ∧
  ∀ (G' H' : Hp) (t : Addr) (ys : List V), Ex G G' → Has G' H' ((t, .lst ys) :: l) → Ats G' ys (dueD n bs) → Q (.ref t) H'
/-! _law_told_table -/
abbrev NTT : List Str := ["wide", "bars", "none", "book"]
def spToldTable : Sp := fun vs H Q _ => ∃ (G : Hp) (l : List (Addr × HO)) (n : Nat) (a : Addr) (xs : List V) (bs : List Bar), vs = [.int n, .ref a] ∧ Has G H l ∧ 0 < n ∧ n ≤ 6 ∧ Stays G l a (.lst xs) ∧ Ats G xs (bs.map dBar) ∧ ruleP n bs ∧ bs.length ≤ 1000 ∧
  ∀ (G' H' : Hp) (t : Addr) (ys : List V), Ex G G' → Has G' H' ((t, .lst ys) :: l) → Ats G' ys (dueD n bs) → Q (.ref t) H'
theorem ats_refs {G : Hp} {L : Lots} (h : InLots G L) : Ats G (refs L) ((L.map (·.2)).map tupD) := by
  rw [List.map_map]
  exact Ats.map_ fun q hq => at_lot (h q hq)
end
end TW
set_option Elab.async false
set_option linter.all false
set_option maxRecDepth 100000
set_option maxHeartbeats 4000000
namespace TW
open PySem PySem.Spec PyProof.Rows L2
def sw2 {α : Type} : List α → List α → List α
  | [], [a, b] => [b, a]
  | _, _ => []
theorem sw2_rel {vs : List V} {us : List Value} {zs : List V} {ws : List Value} (h1 : Vals vs us) (h2 : Vals zs ws) : Vals (sw2 vs zs) (sw2 us ws) := by
  cases h1 with
  | cons a b => exact .nil
  | nil =>
    cases h2 with
    | nil => exact .nil
    | cons a b =>
      cases b with
      | nil => exact .nil
      | cons c d =>
        cases d with
        | nil => exact .cons c (.cons a .nil)
        | cons e f => exact .nil
/-- a def that may raise, called by names alone, where it does not -/
theorem pe_kwC {X : Cx} {CX : CXT} {k : Nat} {x : Str} {ps ks : List Str} {g : List Value → List Value → List Value} {gV : List V → List V → List V} {sp : Sp} {E : XK} {kws : List Keyword} {tk : TA} {p pos : Pos} {f : Addr} {fd : FuncData}
    (F : FnOk X.prog X.w X.K X.mg X.base CX k f fd ps sp) (gm : X.mg x = some (.ref f)) (kp : PySem.W.keepIn X.K (.ref f) = true) (b : KBinds X.K fd ps ks g gV) (hx : Passes CX X E) (hr : Room k X.A) (hkw : PK X kws tk) (hg : Gl X x := by rfl)
    (hall : (backToKw pos (keywordEach kws X.env)).all (·.1.isSome) = true := by rfl) (hks : (backToKw pos (keywordEach kws X.env)).filterMap (·.1) = ks := by rfl) (hdb : (x == ("__debug__" : Str)) = false := by decide)
    (hpl : ((backTo pos (starEach [] X.env)).any (·.1) || (backToKw pos (keywordEach kws X.env)).any (·.1.isNone)) = false := by rfl) : PE X (.Call (.Name x p) [] kws pos) (fun σ H Q => tk σ H fun zs H2 => sp (gV [] zs) H2 Q E) := by
  refine ⟨fun pins s σ H Q I h => wpAny_Call_Name_kw (ld_glob I hg gm (PySem.W.callWith_KW0 (h₀ := X.base) I.ok.mod.kin kp hall (thn (hkw.run pos pins s σ H _ I h) fun ws s2 h2 => ?_) hpl) hdb)⟩
  obtain ⟨zs, H2, I2, rz, q2⟩ := h2
  rw [hks]
  exact ⟨I2.kIn, run_fnk (us := []) (vs := []) F hr b hx I2 .nil rz q2⟩
end TW
set_option Elab.async false
set_option linter.all false
set_option maxRecDepth 100000
set_option maxHeartbeats 4000000
/-! len(x) of an own class with its own __len__ -/
namespace TW
open PySem PySem.Spec PyProof.Rows L2
section
variable {prog : Program} {w : World} {A : Around} {E : Value → Shared → Prop} {s : Shared} {K : PySem.W.Frag} {x C f : Addr} {ox : Obj} {odd : Option Obj}
theorem len_ownW {Q : Value → Shared → Prop} (X : K.In s.heap) (I : PySem.W.InstAt s.heap x ox C odd) (hs : PySem.W.findIn K (.ref C) "__len__" = some (some (.ref f))) (hf : PySem.W.isFn K (.ref f) = true)
    (h : wpAny (model prog w) A.in1 (call (.ref f) [.ref x]) (fun r s' => ∃ n u, r = Value.int n u ∧ 0 ≤ n ∧ n < 2 ^ 63 ∧ Q (.int n s'.toks) { s' with toks := s'.toks + 1 }) E s) : wpAny (model prog w) A (call (.builtin "len") [.ref x]) Q E s := by
  refine Calls.call_function_entry kind_len plain_len entry_len (args_len1 _) ?_
  unfold Builtin.«len»
  refine wpAny_bind (m := oneArg "len" _) (wpAny_pure ?_)
  refine wpAny_bind (m := callSpecial? (.ref x) (Str.ofString "__len__")) (PySem.W.special_fn X I hs (beq_iff_eq.mp hf) (wpAny_mono h (fun r s' hr => ?_) fun _ _ y => y))
  obtain ⟨n, u, rfl, h0, h1, hq⟩ := hr
  refine wpAny_bind (wpAny_holding (wpAny_pure ?_))
  refine wpAny_bind (wpAny_letGo ?_)
  show wpAny _ _ (if n < 0 then _ else _) _ _ _
  rw [if_neg (by omega)]
  show wpAny _ _ (if n ≥ 2 ^ 63 then _ else _) _ _ _
  rw [if_neg (by omega)]
  exact wpAny_bind (wpAny_mkInt (wpAny_pure ⟨_, rfl, hq⟩))
end
def rLenOwn (C : Addr) (sp : Sp) : List V → Hp → VK → Prop := fun xs H Q => ∃ a dx fs, xs = [V.ref a] ∧ H a = some (.ins C dx fs) ∧ sp [.ref a] H (fun z H' => ∃ n : Int, z = .int n ∧ 0 ≤ n ∧ n < 2 ^ 63 ∧ Q (.int n) H') E0
theorem call_lenOwn {X : Cx} {k : Nat} {C f : Addr} {fd : FuncData} {sp : Sp} (hs : PySem.W.findIn X.K (.ref C) "__len__" = some (some (.ref f))) (hf : PySem.W.isFn X.K (.ref f) = true) (F : FnOk X.prog X.w X.K X.mg X.base CX0 k f fd ["self"] sp)
    (hb : Binds X.K fd ["self"] []) (hr : Room (k + 1) X.A) : CallR X (.builtin "len") (rLenOwn C sp) := by
  intro pins s σ H xs us Q I r h
  obtain ⟨a, dx, fs, rfl, ea, q⟩ := h
  obtain ⟨u, rfl, ru⟩ := r.one
  cases (show u = Value.ref a from ru)
  obtain ⟨mA, O, _, _, _, _⟩ := ins_get I.hok ea
  obtain ⟨od, J, _⟩ := O.look
  refine len_ownW I.kIn J hs hf (wpAny_call (codeAny_mono (F.run X.A.in1 X.stack s H ⟨[.ref a], []⟩ [.ref a] [.ref a] _ E0 hr.in1 I.env0.in1 (hb _ [.ref a] I.kIn rfl) (.cons rfl .nil) q) fun r s' hq => ?_))
  cases r with
  | error er => exact False.elim hq
  | ok fl =>
    cases fl with
    | ret u =>
      obtain ⟨v, H', I3, rv, n, rfl, h0, h1, q3⟩ := I.after hq
      obtain ⟨t, rfl⟩ : ∃ t, u = Value.int n t := rv
      exact ⟨n, t, rfl, h0, h1, .int n, H', I3.tok _, ⟨_, rfl⟩, q3⟩
    | next => exact False.elim hq
    | brk => exact False.elim hq
    | cont => exact False.elim hq
end TW
set_option Elab.async false
set_option linter.all false
set_option maxRecDepth 100000
set_option maxHeartbeats 4000000
/-! x in t, t a tuple of data -/
namespace TW
open PySem PySem.Spec PyProof.Rows L2
section
variable {X : Cx} {K : PySem.W.Frag}
def rInDT (K : PySem.W.Frag) : R2 := fun x y H Q => ∃ d ds, Dp K H x d ∧ Dp K H y (.tuple ds) ∧ SeqAt.shaped d = true ∧ SeqAt.shaped (.tuple ds) = true ∧ Q (.bl (ds.any fun z => PyData.eqv z d)) H
def rNotInDT (K : PySem.W.Frag) : R2 := fun x y H Q => ∃ d ds, Dp K H x d ∧ Dp K H y (.tuple ds) ∧ SeqAt.shaped d = true ∧ SeqAt.shaped (.tuple ds) = true ∧ Q (.bl (!ds.any fun z => PyData.eqv z d)) H
theorem op_inDT (hu : X.A.units + 65 < cLine) (h : X.K = K := by rfl) : OpR X (compareOp .In) (rInDT K) := by
  subst h
  intro pins s σ H x y v u Q I rx ry h
  obtain ⟨d, ds, hd, he, sd, se, q⟩ := h
  obtain ⟨as, r1⟩ := Dp.reads I d x v hd rx
  obtain ⟨bs, r2⟩ := Dp.reads I (.tuple ds) y u he ry
  exact SeqAt.in_tuple_reads r2 r1 (SeqAt.canLay_of_shaped se) (SeqAt.canLay_of_shaped sd) (room_in_shaped sd hu) ⟨.bl _, H, I, rfl, q⟩
theorem op_notInDT (hu : X.A.units + 65 < cLine) (h : X.K = K := by rfl) : OpR X (compareOp .NotIn) (rNotInDT K) := by
  subst h
  intro pins s σ H x y v u Q I rx ry h
  obtain ⟨d, ds, hd, he, sd, se, q⟩ := h
  obtain ⟨as, r1⟩ := Dp.reads I d x v hd rx
  obtain ⟨bs, r2⟩ := Dp.reads I (.tuple ds) y u he ry
  exact SeqAt.notIn_tuple_reads r2 r1 (SeqAt.canLay_of_shaped se) (SeqAt.canLay_of_shaped sd) (room_in_shaped sd hu) ⟨.bl _, H, I, rfl, q⟩
end
end TW
set_option Elab.async false
set_option linter.all false
set_option maxRecDepth 100000
set_option maxHeartbeats 4000000
/-! sorted of a tuple of data -/
namespace TW
open PySem PySem.Spec PyProof.Rows L2
open PySem.W (EachIs AllAlike Sortable dataLt dataLe dataKind)
def rSortTE (K : PySem.W.Frag) : List V → Hp → VK → Prop := fun vs H Q => ∃ (a : Addr) (bs : List (V × PyData)), vs = [.ref a] ∧ SqT K H a (bs.map (·.1)) ∧ (∀ b ∈ bs, Dp K H b.1 b.2) ∧ AllAlike (bs.map (·.2)) ∧ Sortable (bs.map (·.2)) ∧ (∀ b ∈ bs, b.2.depth ≤ 20) ∧
  ∀ p : Addr, H p = none → Q (.ref p) (upd H p (.lst ((bs.mergeSort (dataLe false (·.2))).map (·.1))))
section
variable {X : Cx} {K : PySem.W.Frag}
theorem cr_sortT (hu : X.A.units + 64 < cLine) (hK : X.K = K := by rfl) : CallR X (.builtin "sorted") (rSortTE K) := by
  subst hK
  intro pins s σ H vs us Q I r h
  obtain ⟨a, bs, rfl, hs, hd, hal, hso, hdep, q⟩ := h
  obtain ⟨its, rv, ⟨o, ho, hc, n, hdt⟩, hz⟩ := I.tuple hs
  rw [Vals.ref1 r]
  have lz : its.length = bs.length := by rw [← rv.length, List.length_map]
  have lz2 : its.length ≤ sizeLine := by rw [lz, ← List.length_map (f := (·.1))]; exact hz
  have e := each_of_vals rv
  refine Calls.call_function_entry kind_sorted plain_sorted entry_sorted (args_sorted1 _) ?_
  unfold Builtin.«sorted»
  refine wpAny_bind (m := checkCount "sorted" 1 1 _) (wpAny_pure ?_)
  refine wpAny_bind (wpAny_collect_seq a (.inr rfl) ho hc hdt (fun h' hk => ?_) (by rw [List.size_toArray]; exact lz2))
  rw [show its.toArray.toList = its by simp]
  have I1 := I.kept (t' := s.toks) hk
  refine wpAny_bind (wpAny_newList ?_ lz2)
  have at1 : (h'.push (seqObj "list" its.toArray 0)).get? h'.objs.size = some (seqObj "list" its.toArray 0) := Heap.get?_push_size _ rfl
  have keep1 : ∀ b u, h'.get? b = some u → (h'.push (seqObj "list" its.toArray 0)).get? b = some u := fun b u e => Heap.get?_push_of_some _ e
  generalize hg : h'.push (seqObj "list" its.toArray 0) = g at at1 keep1 ⊢
  have keep2 : ∀ b u, h'.get? b = some u → (PySem.W.sortingHeap g h'.objs.size its).get? b = some u := fun b u e =>
    PySem.W.sortingHeap_old (Nat.ne_of_lt (Heap.lt_size e)) (keep1 b u e)
  have er : EachIs (fun v (b : V × PyData) => ∃ as, Reads (PySem.W.sortingHeap g h'.objs.size its) v b.2 as) its bs := by
    have e2 := PySem.W.each_mem e
    refine e2.mono fun v b z => ?_
    obtain ⟨as, r⟩ := Dp.reads I1 b.2 b.1 v (hd b z.2) z.1
    exact ⟨as, PyProof.Rows.Reads.keeps (fun _ _ => keep2 _ _) r⟩
  have em := PySem.W.each_map (R := fun v d => ∃ as, Reads (PySem.W.sortingHeap g h'.objs.size its) v d as) (fun b : V × PyData => b.2) er
  have S : PySem.W.SortsAt X.prog X.w X.A.in1.in1 { s with heap := PySem.W.sortingHeap g h'.objs.size its } (dataKind (PySem.W.sortingHeap g h'.objs.size its) (bs.map (·.2))) its := by
    refine PySem.W.SortsAt.data em hal hso fun d hd1 => ?_
    obtain ⟨b, hb, rfl⟩ := List.mem_map.mp hd1
    have := hdep b hb
    show X.A.units + 1 + 1 + b.2.depth < cLine
    omega
  have eo := PySem.W.sortVals_data (h' := PySem.W.sortingHeap g h'.objs.size its) (enc := fun b : V × PyData => b.2) false e er hal
  refine wpAny_bind (wpAny_holding (wpAny_call_entry slot_list_sort ⟨_, at1, rfl⟩ entry_list_sort (PySem.W.list_sort_vals at1 S lz2 ⟨_, rfl, ?_⟩) (args_list_sort _)))
  generalize PySem.W.sortVals (dataKind (PySem.W.sortingHeap g h'.objs.size its) (bs.map (·.2))) false its its = out at eo
  obtain ⟨c, hc2⟩ := sortedHeap_at (vs := its) (out := out.toArray) at1
  have pm : (bs.mergeSort (dataLe false (·.2))).Perm bs := List.mergeSort_perm bs _
  have hlen : ((bs.mergeSort (dataLe false (·.2))).map (·.1)).length ≤ sizeLine := by
    rw [List.length_map, pm.length_eq, ← lz]
    exact lz2
  refine wpAny_pure ⟨_, rfl, .ref _, upd H h'.objs.size (.lst ((bs.mergeSort (dataLe false (·.2))).map (·.1))), I1.laid (t' := s.toks) (fun b u e => ?_) (Nat.le_refl _) ⟨hlen, out, c, vals_of_each eo, hc2⟩, rfl, q _ (I1.hok.fresh (Nat.le_refl _))⟩
  have q := keep1 b u e
  change (sortedHeap g h'.objs.size _ _).get? b = some u
  rw [sortedHeap_old (Nat.ne_of_lt (Heap.lt_size e)) (Heap.lt_size q)]
  exact q
/-! the rules of hand, their K apart -/
theorem op_neDK (hu : X.A.units + 64 < cLine) (h : X.K = K := by rfl) : OpR X (compareOp .NotEq) (rNeD K) := by
  subst h
  exact op_neD hu
end
end TW
set_option Elab.async false
set_option linter.all false
set_option maxRecDepth 100000
set_option maxHeartbeats 4000000
/-! x in o, x not in o, o of an own class with its own __contains__ -/
namespace TW
open PySem PySem.Spec PyProof.Rows L2
section
variable {M : Model} {A : Around} {E : Value → Shared → Prop} {s : Shared} {K : PySem.W.Frag} {x C f : Addr} {ox : Obj} {odd : Option Obj}
theorem contains_own {Q : Bool → Shared → Prop} {v : Value} (X : K.In s.heap) (I : PySem.W.InstAt s.heap x ox C odd) (hs : PySem.W.findIn K (.ref C) "__contains__" = some (some (.ref f))) (hf : PySem.W.isFn K (.ref f) = true)
    (h : wpAny M A (call (.ref f) [.ref x, v]) (fun r s' => ∃ b, r = Value.bool b ∧ Q b s') E s) : wpAny M A (contains (.ref x) v) Q E s := by
  unfold contains
  refine wpAny_holding ?_
  show wpAny M A (specialOf (.ref x) "__contains__" >>= _) Q E s
  refine wpAny_bind (wpAny_bind (I.type.here ((PySem.W.looks_findIn X hs).here ?_)))
  rw [if_neg (by simp)]
  refine wpAny_bind ?_
  unfold callSpecialUnlessNone?
  refine wpAny_bind (wpAny_bind (I.type.here ((PySem.W.looks_findIn X hs).here ?_)))
  refine wpAny_holding (wpAny_bind ((PySem.W.bind_fn X _ (beq_iff_eq.mp hf)).here ?_))
  dsimp only
  rw [if_neg (by simp)]
  refine wpAny_bind (wpAny_mono h (fun r s' hr => ?_) fun _ _ z => z)
  obtain ⟨b, rfl, hq⟩ := hr
  exact wpAny_pure (wpAny_pure hq)
end
def rInOwn (C : Addr) (sp : Sp) (neg : Bool) : R2 := fun x y H Q => ∃ a dx fs, y = .ref a ∧ H a = some (.ins C dx fs) ∧ sp [.ref a, x] H (fun z H' => ∃ b : Bool, z = .bl b ∧ Q (.bl (if neg then !b else b)) H') E0
section
variable {X : Cx} {k : Nat} {C f : Addr} {fd : FuncData} {sp : Sp}
theorem contains_run (hs : PySem.W.findIn X.K (.ref C) "__contains__" = some (some (.ref f))) (hf : PySem.W.isFn X.K (.ref f) = true) (F : FnOk X.prog X.w X.K X.mg X.base CX0 k f fd ["self", "value"] sp)
    (hb : Binds X.K fd ["self", "value"] []) (hr : Room k X.A) {pins : List (Addr × Obj)} {σ : L2.St} {s : Shared} {H : Hp} {a dx : Addr} {fs : List (Str × V)} {x : V} {v : Value} {R : Bool → Hp → Prop} {Q : Bool → Shared → Prop} {E : Value → Shared → Prop} (I : Inv X pins σ H s) (ea : H a = some (.ins C dx fs)) (rx : RelV x v)
    (q : sp [.ref a, x] H (fun z H' => ∃ b : Bool, z = .bl b ∧ R b H') E0) (hQ : ∀ b s' H', Inv X pins σ H' s' → R b H' → Q b s') : wpAny (model X.prog X.w) X.A (contains (.ref a) v) Q E s := by
  obtain ⟨mA, O, _, _, _, _⟩ := ins_get I.hok ea
  obtain ⟨od, J, _⟩ := O.look
  refine contains_own I.kIn J hs hf (wpAny_call (codeAny_mono (F.run X.A X.stack s H ⟨[.ref a, v], []⟩ [.ref a, v] [.ref a, x] _ E0 hr I.env0 (hb _ [.ref a, v] I.kIn rfl) (.cons rfl (.cons rx .nil)) q) fun r s' hq => ?_))
  cases r with
  | error er => exact False.elim hq
  | ok fl =>
    cases fl with
    | ret u =>
      obtain ⟨z, H', I3, rv, b, rfl, q3⟩ := I.after hq
      obtain rfl : u = Value.bool b := rv
      exact ⟨b, rfl, hQ b _ H' I3 q3⟩
    | next => exact False.elim hq
    | brk => exact False.elim hq
    | cont => exact False.elim hq
theorem op_inOwn (hs : PySem.W.findIn X.K (.ref C) "__contains__" = some (some (.ref f))) (hf : PySem.W.isFn X.K (.ref f) = true) (F : FnOk X.prog X.w X.K X.mg X.base CX0 k f fd ["self", "value"] sp)
    (hb : Binds X.K fd ["self", "value"] []) (hr : Room k X.A) : OpR X (compareOp .In) (rInOwn C sp false) := by
  intro pins s σ H x y v u Q I rx ry h
  obtain ⟨a, dx, fs, rfl, ea, q⟩ := h
  cases (show u = Value.ref a from ry)
  exact wpAny_bind (contains_run hs hf F hb hr I ea rx q fun b s' H' I' q' => wpAny_pure ⟨.bl b, H', I', rfl, q'⟩)
theorem op_notInOwn (hs : PySem.W.findIn X.K (.ref C) "__contains__" = some (some (.ref f))) (hf : PySem.W.isFn X.K (.ref f) = true) (F : FnOk X.prog X.w X.K X.mg X.base CX0 k f fd ["self", "value"] sp)
    (hb : Binds X.K fd ["self", "value"] []) (hr : Room k X.A) : OpR X (compareOp .NotIn) (rInOwn C sp true) := by
  intro pins s σ H x y v u Q I rx ry h
  obtain ⟨a, dx, fs, rfl, ea, q⟩ := h
  cases (show u = Value.ref a from ry)
  exact wpAny_bind (contains_run hs hf F hb hr I ea rx q fun b s' H' I' q' => wpAny_pure ⟨.bl (!b), H', I', rfl, q'⟩)
end
end TW
set_option Elab.async false
set_option linter.all false
set_option maxRecDepth 100000
set_option maxHeartbeats 1000000
/-! x == y, both of an own class with its own __eq__ -/
namespace TW
open PySem PySem.Spec PyProof.Rows L2
def rEqOwn (C : Addr) (sp : Sp) : R2 := fun x y H Q => ∃ a b dx dy fs gs, x = .ref a ∧ y = .ref b ∧ H a = some (.ins C dx fs) ∧ H b = some (.ins C dy gs) ∧ sp [.ref a, .ref b] H (fun z H' => ∃ t : Bool, z = .bl t ∧ Q (.bl t) H') E0
section
variable {X : Cx} {k : Nat} {C f : Addr} {fd : FuncData} {sp : Sp}
theorem op_eqOwn (hs : PySem.W.findIn X.K (.ref C) "__eq__" = some (some (.ref f))) (hf : PySem.W.isFn X.K (.ref f) = true) (F : FnOk X.prog X.w X.K X.mg X.base CX0 k f fd ["self", "other"] sp)
    (hb : Binds X.K fd ["self", "other"] []) (hr : Room k X.A) : OpR X (compareOp .Eq) (rEqOwn C sp) := by
  intro pins s σ H x y v u Q I rx ry h
  obtain ⟨a, b, dx, dy, fs, gs, rfl, rfl, ha, hb', q⟩ := h
  cases (show v = Value.ref a from rx)
  cases (show u = Value.ref b from ry)
  obtain ⟨mA, J, _⟩ := ins_get I.hok ha
  obtain ⟨mB, J', _⟩ := ins_get I.hok hb'
  obtain ⟨od, J, _⟩ := J.look
  obtain ⟨od', J', _⟩ := J'.look
  obtain ⟨m, hF⟩ := I.fr
  show wpAny (model X.prog X.w) X.A (richCompare .Eq (.ref a) (.ref b)) (EP X pins σ Q) X.xe s
  refine PySem.W.cmp_K (op := .Eq) (tb := .ref C) hr.units0 hF I.ok.mod.kin J J'.type (by simp [PySem.W.notFirst]) hs hf ?_
  refine wpAny_call (codeAny_mono (F.run X.A X.stack s H ⟨[.ref a, .ref b], []⟩ [.ref a, .ref b] [.ref a, .ref b] _ E0 hr I.env0 (hb _ [.ref a, .ref b] I.kIn rfl) (.cons rfl (.cons rfl .nil)) q) fun r s' hq => ?_)
  cases r with
  | error er => exact False.elim hq
  | ok fl =>
    cases fl with
    | ret w =>
      obtain ⟨z, H', I3, rz, t, rfl, q3⟩ := I.after hq
      obtain rfl : w = Value.bool t := rz
      exact ⟨.bl t, H', I3, rfl, q3⟩
    | next => exact False.elim hq
    | brk => exact False.elim hq
    | cont => exact False.elim hq
end
end TW
set_option Elab.async false
set_option linter.all false
set_option maxRecDepth 100000
set_option maxHeartbeats 1000000
/-! sorted(set of ints), any number of them up to 4000 -/
namespace L2
open PySem PySem.Spec PyProof.Rows
section
variable {P : Program} {w : World} {A : Around} {E : Value → Shared → Prop} {s : Shared} {a : Addr}
theorem sorted_setN {S : Int → Bool} {n : Nat} {Q : Value → Shared → Prop} (R : SetR w s.heap a S n) (hh : A.handled = none) (hn4 : n ≤ 4000)
    (hQ : ∀ s' p (out : Array Value) (c : Nat) (ns : List Int), (∀ b o, s.heap.get? b = some o → s'.heap.get? b = some o) → s'.gens = s.gens → s'.os = s.os → s.heap.objs.size ≤ p →
      s'.heap.get? p = some (seqObj "list" out c) → IntsAre out.toList ns → ns.Pairwise (· < ·) → (∀ k, k ∈ ns ↔ S k = true) → ns.length = n → Q (.ref p) s') :
    wpAny (model P w) A (call (.builtin "sorted") [.ref a]) Q E s := by
  obtain ⟨o, es, ep, t, ho, hex, hd, g, nd, hm, hb, hf, hn, hr, hl⟩ := R
  refine Calls.call_function_entry kind_sorted plain_sorted entry_sorted (args_sorted1 _) ?_
  unfold Builtin.«sorted»
  refine wpAny_bind (m := checkCount "sorted" 1 1 _) (wpAny_pure ?_)
  refine wpAny_bind (collect_set (A := A.in1) hh ⟨o, ho, hex.1, hd⟩ hf hb hr hl fun s1 vs k1 hz g1 o1 pm => ?_)
  have hvl : vs.length = n := by rw [pm.length_eq, List.length_map, Array.length_toList]; exact hn
  have hI : IntsAre vs (vs.map Builtin.Re.reRawOf) := ints_of vs fun v hv => by
    obtain ⟨e, he, q⟩ := List.mem_map.mp (pm.mem_iff.mp hv)
    obtain ⟨k, tk, h1, _⟩ := g e he
    exact ⟨k, tk, by rw [← q]; exact h1⟩
  have pk : (vs.map Builtin.Re.reRawOf).Perm (es.toList.map keyOf) := by
    have q := pm.map Builtin.Re.reRawOf
    rw [List.map_map] at q
    exact q
  have lz : vs.length ≤ sizeLine := by rw [hvl, sizeLine_eq]; omega
  refine wpAny_bind (wpAny_newList ?_ lz)
  have hoL : (s1.heap.push (seqObj "list" vs.toArray 0)).get? s1.heap.objs.size = some (seqObj "list" vs.toArray 0) := Heap.get?_push_size _ rfl
  refine wpAny_bind (wpAny_holding (wpAny_call_entry slot_list_sort ⟨_, hoL, rfl⟩ entry_list_sort (SrtO.list_sort_ord SrtO.swo_int hoL lz (fun h2 => SrtO.ints_sortable hI h2) fun out h1 h2 => ⟨_, rfl, ?_⟩) (args_list_sort _)))
  obtain ⟨a1, a2, a3⟩ := SrtO.ints_out hI h1 h2
  obtain ⟨c, hc⟩ := sortedHeap_at (vs := vs) (out := out.toArray) hoL
  have pn : (out.map SrtO.iv).Perm (es.toList.map keyOf) := a2.trans pk
  refine wpAny_pure ⟨_, rfl, hQ _ s1.heap.objs.size out.toArray c (out.map SrtO.iv) (fun b u e => ?_) g1 o1 hz hc a1 (lt_of_le_nodup _ a3 (pn.nodup_iff.mpr nd)) (fun k => by rw [pn.mem_iff, ← hm k]) ?_⟩
  · have q := k1 b u e
    have hlt := Heap.lt_size q
    show (sortedHeap (s1.heap.push (seqObj "list" vs.toArray 0)) s1.heap.objs.size vs out.toArray).get? b = some u
    rw [sortedHeap_old (Nat.ne_of_lt hlt) (by rw [size_push']; exact Nat.lt_succ_of_lt hlt)]
    exact Heap.get?_push_of_some _ q
  · rw [pn.length_eq, List.length_map, Array.length_toList]; exact hn
end
def rSortedSetN (w : World) : List V → Hp → VK → Prop := fun vs H Q => ∃ (a : Addr) (S : Int → Bool) (n : Nat), vs = [V.ref a] ∧ H a = some (SetO w a S n) ∧ n ≤ 4000 ∧
  ∀ (ns : List Int) (p : Addr), ns.Pairwise (· < ·) → (∀ k : Int, k ∈ ns ↔ S k = true) → ns.length = n → H p = none → Q (.ref p) (upd H p (.lst (ns.map V.int)))
section
variable {X : Cx}
theorem cr_sortedSetN {w : World} (hc : X.calm = true) (hw : X.w = w := by rfl) : CallR X (.builtin "sorted") (rSortedSetN w) := by
  subst hw
  intro pins s σ H vs us Q I r h
  obtain ⟨a, S, n, rfl, ha, h4, q⟩ := h
  have R := setO_get I ha
  rw [Vals.ref1 r]
  refine sorted_setN R (I.ok.hd hc) h4 fun s' p out c ns k g o hp hg hi hs hm hl => ?_
  have hlen : (ns.map V.int).length ≤ sizeLine := by rw [List.length_map, hl, sizeLine_eq]; omega
  have hn : H p = none := I.hok.fresh hp
  have J : Inv X pins σ (upd H p (.lst (ns.map V.int))) { s with heap := s'.heap, gens := s'.gens, drawn := s'.drawn, toks := s'.toks } :=
    I.call (ch := []) (Un.laid k hp hn) (I.hok.laid k hp ⟨hlen, out.toList, c, vals_of_ints hi, hg⟩) (by rw [g]; exact I.bare) (fun _ z => nomatch z)
  have e : s' = { s with heap := s'.heap, gens := s'.gens, drawn := s'.drawn, toks := s'.toks } := by
    cases s'
    cases s
    cases o
    rfl
  rw [e]
  exact ⟨.ref p, _, J, rfl, q ns p hs hm hl hn⟩
end
end L2
set_option Elab.async false
set_option linter.all false
set_option maxRecDepth 100000
set_option maxHeartbeats 1000000
/-! for (a, b), v in d.items(), d a dict with tuple keys (locked) -/
namespace L2
open PySem PySem.Spec PyProof.Rows
section
variable {X : Cx} {pins : List (Addr × Obj)} {σ : St} {H : Hp} {s : Shared} {d : Addr} {o : Obj}
theorem Inv.frzT2 {kvs : List (List Key × V)} (I : Inv X pins σ H s) (h : H d = some (.frz o (.dT kvs))) :
    (d == sysModules) = false ∧ ∃ (es : Array DictEntry) (ep : Nat), s.heap.DictRaw d es ep ∧ es.size = kvs.length ∧
      ∀ (i : Nat) (k : List Key) (v : V), kvs[i]? = some (k, v) → ∃ (hi : i < es.size) (q : Addr), es[i].key = .ref q ∧ H q = some (.tup (k.map kV)) ∧ RelV v es[i].val := by
  obtain ⟨hd, z, hs, xs, pr, o', es, ep, ho, hx, hdt, he, _⟩ := I.hok d _ h
  refine ⟨hs, es, ep, ⟨o', ho, hx, hdt⟩, ?_, fun i k v e => ?_⟩
  · have l1 : es.size = xs.length := size_of_entries he
    have l2 : kvs.length = xs.length := Paired.length pr
    omega
  · obtain ⟨b, hb, e1, e2, e3⟩ := paired_get pr e
    have q := entry_at he i
    rw [hb] at q
    obtain ⟨hi, eq⟩ := Array.getElem?_eq_some_iff.mp q
    refine ⟨hi, b.2.1, ?_, e2, ?_⟩
    · rw [eq]
      rfl
    · rw [eq]
      exact e3
end
def Itit (d : Addr) (o : Obj) (kvs : List (List Key × V)) : It :=
  ⟨fun i H => H d = some (.frz o (.dT kvs)) ∧ i < kvs.length, fun i H x H' => ∃ (T q : Addr) (k : List Key) (v : V), kvs[i]? = some (k, v) ∧ x = .ref T ∧ H T = none ∧ H q = some (.tup (k.map kV)) ∧ H' = upd H T (.tup [.ref q, v]), fun i H => H d = some (.frz o (.dT kvs)) ∧ kvs.length ≤ i⟩
theorem raw_ep {h : Heap} {d : Addr} {es es' : Array DictEntry} {ep ep' : Nat} (a : h.DictRaw d es ep) (b : h.DictRaw d es' ep') : es' = es ∧ ep' = ep := by
  obtain ⟨o, h1, _, h2⟩ := a
  obtain ⟨o', h1', _, h2'⟩ := b
  rw [h1] at h1'
  cases h1'
  exact dict_ep h2 h2'
section
variable {P : Program} {w : World} {K : PySem.W.Frag} {d : Addr} {o : Obj} {es : Array DictEntry} {ep : Nat}
theorem turn_itemsT {kvs : List (List Key × V)} {elts : List Expr} {kk : Nat} {tpos : Pos} (it : Addr) (hod : o.data = .dict es ep) :
    Turn P w K (.Tuple elts kk tpos) (Itit d o kvs) [it] it (fun i h => ∃ ok ov, IsItemIter h it d i kvs.length ep ok ov) where
  mem := by simp
  obj := fun i h st b hb => by
    have e : b = it := by simpa using hb
    subst e
    obtain ⟨ok, ov, e⟩ := st
    exact ⟨_, e, fun v z => nomatch z⟩
  keep := fun i h h' st k => let ⟨ok, ov, e⟩ := st; ⟨ok, ov, k it (by simp) _ e⟩
  item := by
    intro X hP hw hK hc i pins s σ H E I hf st hg
    subst hP hw hK
    obtain ⟨hd, hi⟩ := hg
    obtain ⟨hs, es', ep', hr, hsz, ent⟩ := I.frzT2 hd
    obtain ⟨hs0, hgd, hx0, es0, ep0, hdt0, _⟩ := I.frzT hd
    obtain ⟨rfl, rfl⟩ := dict_ep hod hdt0
    obtain ⟨rfl, rfl⟩ := raw_ep ⟨o, hgd, hx0, hod⟩ hr
    obtain ⟨⟨k, v⟩, hkv⟩ : ∃ p, kvs[i]? = some p := ⟨kvs[i], List.getElem?_eq_getElem hi⟩
    obtain ⟨hie, q, hkey, hq, hval⟩ := ent i k v hkv
    obtain ⟨ok, ov, he⟩ := st
    rw [← hsz] at he
    have hlt : it < s.heap.objs.size := Heap.lt_size he
    refine wpAny_pyNext_items_item_raw he hr hie fun h' ho hT hz hk => ?_
    rw [hkey] at ho hT
    generalize hu : es'[i].val = u at ho hT hval
    refine ⟨_, rfl, wpAny_letOwnedTupleGo_items (s := { s with heap := h' }) ho fun h'' he' sb => ?_⟩
    have hT2 : h''.get? s.heap.objs.size = some { cls := .type "tuple", data := .seq #[.ref q, u] } := (sb.2 _ (Nat.ne_of_gt hlt)).trans hT
    have new : ObjOk X.prog X.w (upd H s.heap.objs.size (.tup [.ref q, v])) h'' s.heap.objs.size (.tup [.ref q, v]) :=
      ⟨by show 2 ≤ sizeLine; decide, [.ref q, u], .cons rfl (.cons hval .nil), ⟨_, hT2, rfl, _, rfl⟩⟩
    have I1 : Inv X pins σ (upd H s.heap.objs.size (.tup [.ref q, v])) { s with heap := h'' } :=
      I.turnedNew (t' := s.toks) (ch := [it]) (fun b ob hb e => (sb.2 b (by simpa using hb)).trans (hk b ob (by simpa using hb) e)) hf (Nat.le_refl _) new
    refine ⟨.ref s.heap.objs.size, _, I1, rfl, ⟨_, q, k, v, hkv, rfl, I.hok.fresh (Nat.le_refl _), hq, rfl⟩, ⟨.ref q, u, ?_⟩, fun b hb => ?_⟩
    · rw [← hsz]; exact he'
    · have e : b = it := by simpa using hb
      rw [e, upd_ne (Nat.ne_of_lt hlt)]
      exact (hf it (by simp)).1
  done := by
    intro X hP hw hK hc i pins s σ H E I hf st hg
    subst hP hw hK
    obtain ⟨hd, hi⟩ := hg
    obtain ⟨f0, f1, f2, f3, f4, f5⟩ := hf it (by simp)
    obtain ⟨hs, es', ep', hr, hsz, ent⟩ := I.frzT2 hd
    obtain ⟨hs0, hgd, hx0, es0, ep0, hdt0, _⟩ := I.frzT hd
    obtain ⟨rfl, rfl⟩ := dict_ep hod hdt0
    obtain ⟨rfl, rfl⟩ := raw_ep ⟨o, hgd, hx0, hod⟩ hr
    obtain ⟨ok, ov, he⟩ := st
    rw [← hsz] at he
    exact wpAny_pyNext_items_end_raw (I.ok.hd hc) he hr (by omega) fun h' eb => ⟨rfl, I.turned (t' := s.toks) (fun b ob hb e => eb b ob hb e) f0 f1 f3 f4 f5⟩
  self := fun A i s Q E st h => let ⟨_, _, e⟩ := st; PySem.W.kcp_self e h
end
def iItemsT (td : TE) : TI := fun σ H R => td σ H fun x H1 => ∃ d o kvs, x = .ref d ∧ H1 d = some (.frz o (.dT kvs)) ∧ R (Itit d o kvs) H1
section
variable {X : Cx} {tg e : Expr} {td : TE} {apos cpos : Pos}
theorem pi_itemsT {elts : List Expr} {kk : Nat} {tpos : Pos} (he : PE X e td) (hbase : attributeBase e "items" X.env (eval e X.env) = eval e X.env := by rfl) (hline : (apos.endLine == cpos.line) = true := by rfl) :
    PI X (.Tuple elts kk tpos) (.Call (.Attribute e "items" apos) [] [] cpos) (iItemsT td) := by
  refine ⟨fun pins s σ H R I h => ?_⟩
  refine wpAny_Call_method (T := "dict") (id := "dict.items") hbase rfl hline F.plainAttrs_dict F.slot_dict_items F.type_dict_items (thn (he.run pins s σ H _ I h) fun u s1 ⟨x, H1, I1, rx, d, o, kvs, ex, hd, q⟩ => ?_)
  subst ex
  obtain rfl : u = Value.ref d := rx
  obtain ⟨hs, es, ep, hr, hsz, ent⟩ := I1.frzT2 hd
  obtain ⟨hs0, hgd, hx0, es0, ep0, hdt0, _⟩ := I1.frzT hd
  obtain ⟨rfl, rfl⟩ := raw_ep ⟨o, hgd, hx0, hdt0⟩ hr
  have nd : ∀ b, Value.ref d = .ref b → ∃ ob, s1.heap.get? b = some ob ∧ ob.dict = none := fun b e => by
    cases e
    exact ⟨o, hgd, hx0.2.1⟩
  refine ⟨hr.typeIs, nd, ?_⟩
  have I2 : Inv X pins σ H1 { s1 with heap := s1.heap.push { cls := .type "dict_items", data := .fields #[.ref d] } } := I1.kept (t' := s1.toks) fun b ob q => Heap.get?_push_of_some _ q
  have fin : wpAny (model X.prog X.w) X.A (pyIter (.ref s1.heap.objs.size)) (PIE X pins σ (.Tuple elts kk tpos) R) X.xe { s1 with heap := s1.heap.push { cls := .type "dict_items", data := .fields #[.ref d] } } := by
    refine wpAny_pyIter_items_raw (d := d) ⟨_, Heap.get?_push_size _ rfl, rfl, rfl⟩ (hr.at fun _ e => Heap.get?_push_of_some _ e) (pi_one (tk := s1.toks) I2 _ (turn_itemsT _ hdt0) ⟨.none, .none, ?_⟩ q)
    rw [← hsz]
    exact Heap.get?_push_size _ rfl
  show wpAny _ _ (callWith cpos (.builtin "dict.items") [.ref d] [] []) _ X.xe s1
  exact method_meetsIn F.slot_dict_items F.entry_dict_items rfl (PySem.evalArgs_none ⟨rfl, hr.typeIs, F.args_dict_items_1 _, _, meets_dict_items_raw d hs, ⟨es, ep, hr⟩, fin⟩)
end
section
variable {d : Addr} {o : Obj}
theorem walk_itemsT {kvs : List (List Key × V)} : Walk (Itit d o kvs) kvs.length (fun H => H d = some (.frz o (.dT kvs)))
    (fun i H x H' => ∃ (T q : Addr) (k : List Key) (v : V), kvs[i]? = some (k, v) ∧ x = .ref T ∧ H T = none ∧ H q = some (.tup (k.map kV)) ∧ H' = upd H T (.tup [.ref q, v])) :=
  ⟨fun _ _ hi q => ⟨q, hi⟩, fun _ q => ⟨q, Nat.le_refl _⟩, fun _ _ _ _ _ _ y => y⟩
end
end L2
set_option Elab.async false
set_option linter.all false
set_option maxRecDepth 100000
set_option maxHeartbeats 1000000
namespace TW
open PySem PySem.Spec PyProof.Rows L2
/-! ties: two places and a weight -/
abbrev Arc := Nat × Nat × Nat
def arcL (t : Arc) : List Int := [(t.1 : Int), (t.2.1 : Int), (t.2.2 : Int)]
def arcD (t : Arc) : PyData := tupD (arcL t)
def arcOk (n : Nat) (t : Arc) : Prop := t.1 < n ∧ t.2.1 < n ∧ t.1 ≠ t.2.1
def endsA (t : Arc) : Nat × Nat := (min t.1 t.2.1, max t.1 t.2.1)
def wOf (ts : List Arc) (p : Nat × Nat) : Nat := ((ts.filter fun t => decide (endsA t = p)).map fun t => t.2.2).sum
def pairsN (n : Nat) : List (Nat × Nat) := (List.range n).flatMap fun a => ((List.range n).filter fun b => decide (a < b)).map fun b => (a, b)
def sumA (n : Nat) (ts : List Arc) : List Arc := ((pairsN n).filter fun p => decide (0 < wOf ts p)).map fun p => (p.1, p.2, wOf ts p)
theorem arcL_inj {s t : Arc} (h : arcL s = arcL t) : s = t := by
  unfold arcL at h
  simp only [List.cons.injEq, Int.natCast_inj, and_true] at h
  obtain ⟨h1, h2, h3⟩ := h
  exact Prod.ext h1 (Prod.ext h2 h3)
theorem mem_pairsN {n : Nat} {p : Nat × Nat} : p ∈ pairsN n ↔ p.1 < p.2 ∧ p.2 < n := by
  unfold pairsN
  rw [List.mem_flatMap]
  constructor
  · rintro ⟨a, ha, h⟩
    obtain ⟨b, hb, rfl⟩ := List.mem_map.mp h
    obtain ⟨h1, h2⟩ := List.mem_filter.mp hb
    exact ⟨of_decide_eq_true h2, List.mem_range.mp h1⟩
  · rintro ⟨h1, h2⟩
    exact ⟨p.1, List.mem_range.mpr (by omega), List.mem_map.mpr ⟨p.2, List.mem_filter.mpr ⟨List.mem_range.mpr h2, decide_eq_true h1⟩, rfl⟩⟩
theorem pairsN_pw (n : Nat) : (pairsN n).Pairwise fun p q => p.1 < q.1 ∨ (p.1 = q.1 ∧ p.2 < q.2) := by
  unfold pairsN
  rw [List.pairwise_flatMap]
  refine ⟨fun a _ => ?_, List.pairwise_lt_range.imp fun {a b} h x hx y hy => ?_⟩
  · rw [List.pairwise_map]
    exact (List.pairwise_lt_range.filter _).imp fun h => .inr ⟨rfl, h⟩
  · obtain ⟨_, _, rfl⟩ := List.mem_map.mp hx
    obtain ⟨_, _, rfl⟩ := List.mem_map.mp hy
    exact .inl h
theorem wOf_snoc (ts : List Arc) (t : Arc) (p : Nat × Nat) : wOf (ts ++ [t]) p = wOf ts p + (if endsA t = p then t.2.2 else 0) := by
  unfold wOf
  rw [List.filter_append, List.map_append, List.sum_append]
  congr 1
  by_cases h : endsA t = p
  · rw [if_pos h, List.filter_cons_of_pos (p := fun t => decide (endsA t = p)) (decide_eq_true h)]
    simp
  · rw [if_neg h, List.filter_cons_of_neg (p := fun t => decide (endsA t = p)) (by rw [decide_eq_false h]; decide)]
    simp
theorem wOf_perm {ts us : List Arc} (h : ts.Perm us) (p : Nat × Nat) : wOf ts p = wOf us p := ((h.filter _).map _).sum_nat
theorem wOf_none {ts : List Arc} {p : Nat × Nat} (h : ∀ t ∈ ts, endsA t ≠ p) : wOf ts p = 0 := by
  unfold wOf
  rw [List.filter_eq_nil_iff.mpr fun t ht => by rw [decide_eq_false (h t ht)]; decide]
  rfl
theorem sumA_perm {ts us : List Arc} (h : ts.Perm us) (n : Nat) : sumA n ts = sumA n us := by
  have e : wOf ts = wOf us := funext fun p => wOf_perm h p
  unfold sumA
  rw [e]
theorem mem_sumA {n : Nat} {ts : List Arc} {t : Arc} : t ∈ sumA n ts ↔ t.1 < t.2.1 ∧ t.2.1 < n ∧ t.2.2 = wOf ts (t.1, t.2.1) ∧ 0 < t.2.2 := by
  unfold sumA
  rw [List.mem_map]
  constructor
  · rintro ⟨p, hp, rfl⟩
    obtain ⟨h1, h2⟩ := List.mem_filter.mp hp
    obtain ⟨h3, h4⟩ := mem_pairsN.mp h1
    exact ⟨h3, h4, rfl, of_decide_eq_true h2⟩
  · rintro ⟨h1, h2, h3, h4⟩
    refine ⟨(t.1, t.2.1), List.mem_filter.mpr ⟨mem_pairsN.mpr ⟨h1, h2⟩, decide_eq_true (by rw [← h3]; exact h4)⟩, ?_⟩
    rw [← h3]
theorem sumA_ok {n : Nat} {ts : List Arc} : ∀ t ∈ sumA n ts, arcOk n t := fun t ht => by
  obtain ⟨h1, h2, _⟩ := mem_sumA.mp ht
  exact ⟨by omega, h2, by omega⟩
theorem sumA_pw (n : Nat) (ts : List Arc) : (sumA n ts).Pairwise fun s t => s.1 < t.1 ∨ (s.1 = t.1 ∧ s.2.1 < t.2.1) := by
  unfold sumA
  rw [List.pairwise_map]
  exact (pairsN_pw n).filter _
theorem lexLt_arc {s t : Arc} (h : s.1 < t.1 ∨ (s.1 = t.1 ∧ s.2.1 < t.2.1)) : HT.lexLt (arcL s) (arcL t) = true := by
  rw [lex_list, decide_eq_true_eq]
  unfold arcL
  rw [List.cons_lt_cons_iff]
  rcases h with h | ⟨h1, h2⟩
  · exact .inl (by omega)
  · refine .inr ⟨by omega, ?_⟩
    rw [List.cons_lt_cons_iff]
    exact .inl (by omega)
theorem sumA_lex (n : Nat) (ts : List Arc) : ((sumA n ts).map arcL).Pairwise fun x y => HT.lexLt x y = true := by
  rw [List.pairwise_map]
  exact (sumA_pw n ts).imp fun h => lexLt_arc h
theorem sumA_nodup (n : Nat) (ts : List Arc) : (sumA n ts).Nodup := (sumA_pw n ts).imp fun {a b} h e => by
  rw [e] at h
  omega
theorem wOf_sumA {n : Nat} {ts : List Arc} {p : Nat × Nat} (h1 : p.1 < p.2) (h2 : p.2 < n) : wOf (sumA n ts) p = wOf ts p := by
  have one : ∀ l : List Arc, l.Nodup → (∀ t ∈ l, t.1 < t.2.1) → (∀ t ∈ l, t.2.2 = wOf ts (t.1, t.2.1)) → wOf l p = if p ∈ l.map (fun t => (t.1, t.2.1)) then wOf ts p else 0 := by
    intro l nd lt hw
    induction l with
    | nil => rfl
    | cons t l ih =>
      have nt := (List.nodup_cons.mp nd).1
      have ih := ih (List.nodup_cons.mp nd).2 (fun u hu => lt u (List.mem_cons_of_mem _ hu)) (fun u hu => hw u (List.mem_cons_of_mem _ hu))
      have et : endsA t = (t.1, t.2.1) := by
        have := lt t List.mem_cons_self
        unfold endsA
        rw [Nat.min_eq_left (by omega), Nat.max_eq_right (by omega)]
      have ec : wOf (t :: l) p = (if endsA t = p then t.2.2 else 0) + wOf l p := by
        unfold wOf
        by_cases h : endsA t = p
        · rw [if_pos h, List.filter_cons_of_pos (p := fun t => decide (endsA t = p)) (decide_eq_true h), List.map_cons, List.sum_cons]
        · rw [if_neg h, List.filter_cons_of_neg (p := fun t => decide (endsA t = p)) (by rw [decide_eq_false h]; decide), Nat.zero_add]
      rw [ec, ih, et, List.map_cons]
      by_cases h : (t.1, t.2.1) = p
      · have hn : p ∉ l.map fun t => (t.1, t.2.1) := fun hm => by
          obtain ⟨u, hu, eu⟩ := List.mem_map.mp hm
          have e : u = t := by
            have w1 := hw u (List.mem_cons_of_mem _ hu)
            have w2 := hw t List.mem_cons_self
            have e2 : (u.1, u.2.1) = (t.1, t.2.1) := eu.trans h.symm
            rw [e2, ← w2] at w1
            injection e2 with q1 q2
            exact Prod.ext q1 (Prod.ext q2 w1)
          exact nt (e ▸ hu)
        rw [if_pos h, if_neg hn, if_pos (by rw [h]; exact List.mem_cons_self), hw t List.mem_cons_self, h, Nat.add_zero]
      · rw [if_neg h, Nat.zero_add]
        congr 1
        rw [List.mem_cons, eq_iff_iff]
        constructor
        · exact .inr
        · rintro (e | e)
          · exact absurd e.symm h
          · exact e
  rw [one _ (sumA_nodup n ts) (fun t ht => (mem_sumA.mp ht).1) fun t ht => (mem_sumA.mp ht).2.2.1]
  by_cases h : p ∈ (sumA n ts).map fun t => (t.1, t.2.1)
  · rw [if_pos h]
  · rw [if_neg h]
    by_cases h0 : 0 < wOf ts p
    · exact absurd (List.mem_map.mpr ⟨(p.1, p.2, wOf ts p), mem_sumA.mpr ⟨h1, h2, rfl, h0⟩, rfl⟩) h
    · omega
theorem sumA_idem {n : Nat} (ts : List Arc) : sumA n (sumA n ts) = sumA n ts := by
  have e1 : sumA n (sumA n ts) = ((pairsN n).filter fun p => decide (0 < wOf (sumA n ts) p)).map fun p => (p.1, p.2, wOf (sumA n ts) p) := rfl
  rw [e1]
  have e : ∀ p ∈ pairsN n, wOf (sumA n ts) p = wOf ts p := fun p hp => by
    obtain ⟨h1, h2⟩ := mem_pairsN.mp hp
    exact wOf_sumA h1 h2
  rw [show ((pairsN n).filter fun p => decide (0 < wOf (sumA n ts) p)) = (pairsN n).filter fun p => decide (0 < wOf ts p) from filt_congr fun p hp => by rw [e p hp]]
  show _ = ((pairsN n).filter fun p => decide (0 < wOf ts p)).map fun p => (p.1, p.2, wOf ts p)
  refine List.map_congr_left fun p hp => ?_
  rw [e p (List.mem_filter.mp hp).1]
/-- sorted, the sums are in their order -/
theorem sort_arcs {n : Nat} {ts A : List Arc} (nd : A.Nodup) (h : ∀ t, t ∈ A ↔ t ∈ sumA n ts) : (A.map arcD).mergeSort dLe = (sumA n ts).map arcD := by
  have pm := List.mergeSort_perm (A.map arcD) dLe
  have pw := dLe_pw (A.map arcD)
  have em : A.map arcD = (A.map arcL).map tupD := by rw [List.map_map]; rfl
  generalize (A.map arcD).mergeSort dLe = Z at pm pw
  rw [em] at pm
  obtain ⟨W, pW, rfl⟩ := perm_back pm
  have e2 : (sumA n ts).map arcD = ((sumA n ts).map arcL).map tupD := by rw [List.map_map]; rfl
  rw [e2]
  congr 1
  have ndL : (A.map arcL).Nodup := by
    unfold List.Nodup
    rw [List.pairwise_map]
    exact List.Pairwise.imp (fun {a b} (hn : a ≠ b) e => hn (arcL_inj e)) nd
  rw [List.pairwise_map] at pw
  refine strict_ext lex_asymm (lots_strict (pw.imp fun {x y} q => ?_) (pW.nodup_iff.mpr ndL)) (sumA_lex n ts) fun z => ?_
  · rw [dLe_lots] at q
    rw [Bool.not_eq_true'] at q
    exact q
  · rw [pW.mem_iff, List.mem_map, List.mem_map]
    constructor
    · rintro ⟨t, ht, e⟩
      exact ⟨t, (h t).mp ht, e⟩
    · rintro ⟨t, ht, e⟩
      exact ⟨t, (h t).mpr ht, e⟩
theorem At.arc {H : Hp} {v : V} {t : Arc} (h : At H v (arcD t)) : ∃ a, v = .ref a ∧ H a = some (.tup [.int t.1, .int t.2.1, .int t.2.2]) := by
  obtain ⟨a, xs, rfl, h1, h2⟩ := At.isT h
  refine ⟨a, rfl, ?_⟩
  have e : xs = [.int t.1, .int t.2.1, .int t.2.2] := by
    match xs, h2 with
    | [x, y, z], h2 =>
      have e1 := h2.head.isI
      have e2 := h2.rest.head.isI
      have e3 := h2.rest.rest.head.isI
      rw [e1, e2, e3]
    | [], h2 => exact absurd h2.1 (by simp [arcL])
    | [_], h2 => exact absurd h2.1 (by simp [arcL])
    | [_, _], h2 => exact absurd h2.1 (by simp [arcL])
    | _ :: _ :: _ :: _ :: _, h2 => exact absurd h2.1 (by simp [arcL])
  rw [h1, e]
theorem at_arc {H : Hp} {a : Addr} {t : Arc} (h : H a = some (.tup [.int t.1, .int t.2.1, .int t.2.2])) : At H (.ref a) (arcD t) := At.mkT h (.cons (.int _) (.cons (.int _) (.cons (.int _) .nil)))
theorem nodup_lenG {α : Type} [DecidableEq α] : ∀ {xs ys : List α}, xs.Nodup → (∀ x ∈ xs, x ∈ ys) → xs.length ≤ ys.length
  | [], ys, _, _ => Nat.zero_le _
  | x :: xs, ys, nd, h => by
    have hx := h x List.mem_cons_self
    have ih := nodup_lenG (xs := xs) (ys := ys.erase x) (List.nodup_cons.mp nd).2 fun y hy => (List.mem_erase_of_ne (fun e => (List.nodup_cons.mp nd).1 (by rw [← e]; exact hy))).mpr (h y (List.mem_cons_of_mem _ hy))
    rw [List.length_erase_of_mem hx] at ih
    have := List.length_pos_of_mem hx
    rw [List.length_cons]
    omega
/-! the dict of the sums -/
def keyP (p : Nat × Nat) : List Key := [.inl (p.1 : Int), .inl (p.2 : Int)]
theorem keyP_inj {p q : Nat × Nat} (h : keyP p = keyP q) : p = q := by
  unfold keyP at h
  simp only [List.cons.injEq, Sum.inl.injEq, Int.natCast_inj, and_true] at h
  exact Prod.ext h.1 h.2
def entA (t : Arc) : List Key × V := (keyP (t.1, t.2.1), .int t.2.2)
structure Book (n : Nat) (rs ps : List Arc) : Prop where
  nd : (ps.map fun t => (t.1, t.2.1)).Nodup
  lt : ∀ t ∈ ps, t.1 < t.2.1 ∧ t.2.1 < n
  w : ∀ t ∈ ps, t.2.2 = wOf rs (t.1, t.2.1)
  all : ∀ r ∈ rs, endsA r ∈ ps.map fun t => (t.1, t.2.1)
def putA (ps : List Arc) (p : Nat × Nat) (w : Nat) : List Arc := if p ∈ ps.map (fun t => (t.1, t.2.1)) then ps.map (fun t => if (t.1, t.2.1) = p then (p.1, p.2, w) else t) else ps ++ [(p.1, p.2, w)]
theorem valV_ents (p : Nat × Nat) : ∀ ps : List Arc, valV (ps.map entA) (keyP p) = (ps.find? fun t => decide ((t.1, t.2.1) = p)).map fun t => V.int t.2.2
  | [] => rfl
  | t :: ps => by
    by_cases h : (t.1, t.2.1) = p
    · rw [List.map_cons, valV_pos (show (entA t).1 = keyP p by unfold entA; rw [h]), List.find?_cons_of_pos (p := fun t : Arc => decide ((t.1, t.2.1) = p)) (decide_eq_true h)]
      rfl
    · rw [List.map_cons, valV_neg (fun e => h (keyP_inj e)), List.find?_cons_of_neg (p := fun t : Arc => decide ((t.1, t.2.1) = p)) (by rw [decide_eq_false h]; decide), valV_ents p ps]
theorem putK_ents (ps : List Arc) (p : Nat × Nat) (w : Nat) : putK (ps.map entA) (keyP p) (.int w) = (putA ps p w).map entA := by
  unfold putK putA
  have e : ((ps.map entA).any fun kv => decide (kv.1 = keyP p)) = decide (p ∈ ps.map fun t => (t.1, t.2.1)) := by
    rw [Bool.eq_iff_iff, List.any_eq_true, decide_eq_true_eq, List.mem_map]
    constructor
    · rintro ⟨x, hx, h⟩
      obtain ⟨t, ht, rfl⟩ := List.mem_map.mp hx
      exact ⟨t, ht, keyP_inj (of_decide_eq_true h)⟩
    · rintro ⟨t, ht, h⟩
      exact ⟨entA t, List.mem_map.mpr ⟨t, ht, rfl⟩, decide_eq_true (by unfold entA; rw [h])⟩
  rw [e]
  by_cases h : p ∈ ps.map fun t => (t.1, t.2.1)
  · rw [if_pos (decide_eq_true h), if_pos h, List.map_map, List.map_map]
    refine List.map_congr_left fun t _ => ?_
    by_cases q : (t.1, t.2.1) = p
    · show (if (entA t).1 = keyP p then _ else _) = entA (if (t.1, t.2.1) = p then _ else _)
      rw [if_pos (show (entA t).1 = keyP p by unfold entA; rw [q]), if_pos q]
      unfold entA
      rw [q]
    · show (if (entA t).1 = keyP p then _ else _) = entA (if (t.1, t.2.1) = p then _ else _)
      rw [if_neg (show ¬ (entA t).1 = keyP p from fun e => q (keyP_inj e)), if_neg q]
  · rw [if_neg (by rw [decide_eq_false h]; decide), if_neg h, List.map_append]
    rfl
theorem putA_keys (ps : List Arc) (p : Nat × Nat) (w : Nat) : (putA ps p w).map (fun t => (t.1, t.2.1)) = if p ∈ ps.map (fun t => (t.1, t.2.1)) then ps.map (fun t => (t.1, t.2.1)) else ps.map (fun t => (t.1, t.2.1)) ++ [p] := by
  unfold putA
  by_cases h : p ∈ ps.map fun t => (t.1, t.2.1)
  · rw [if_pos h, if_pos h, List.map_map]
    refine List.map_congr_left fun t _ => ?_
    show ((if (t.1, t.2.1) = p then (p.1, p.2, w) else t).1, (if (t.1, t.2.1) = p then (p.1, p.2, w) else t).2.1) = _
    by_cases q : (t.1, t.2.1) = p
    · rw [if_pos q]
      exact q.symm
    · rw [if_neg q]
  · rw [if_neg h, if_neg h, List.map_append]
    rfl
theorem Book.put {n : Nat} {rs ps : List Arc} (B : Book n rs ps) {r : Arc} (hr : arcOk n r) : Book n (rs ++ [r]) (putA ps (endsA r) (wOf (rs ++ [r]) (endsA r))) := by
  have hlt : (endsA r).1 < (endsA r).2 ∧ (endsA r).2 < n := by
    obtain ⟨h1, h2, h3⟩ := hr
    unfold endsA
    show min r.1 r.2.1 < max r.1 r.2.1 ∧ max r.1 r.2.1 < n
    omega
  have mem : ∀ t ∈ putA ps (endsA r) (wOf (rs ++ [r]) (endsA r)), t = ((endsA r).1, (endsA r).2, wOf (rs ++ [r]) (endsA r)) ∨ (t ∈ ps ∧ (t.1, t.2.1) ≠ endsA r) := fun t ht => by
    unfold putA at ht
    split at ht
    · obtain ⟨u, hu, e⟩ := List.mem_map.mp ht
      split at e
      · exact .inl e.symm
      · rename_i q
        subst e
        exact .inr ⟨hu, q⟩
    · rename_i q
      rcases List.mem_append.mp ht with h | h
      · exact .inr ⟨h, fun e => q (List.mem_map.mpr ⟨t, h, e⟩)⟩
      · exact .inl (List.mem_singleton.mp h)
  refine ⟨?_, fun t ht => ?_, fun t ht => ?_, fun s hs => ?_⟩
  · rw [putA_keys]
    split
    · exact B.nd
    · rename_i h
      refine List.nodup_append.mpr ⟨B.nd, by simp, fun a ha b hb e => ?_⟩
      rw [List.mem_singleton.mp hb] at e
      exact h (e ▸ ha)
  · rcases mem t ht with rfl | ⟨h, _⟩
    · exact hlt
    · exact B.lt t h
  · rcases mem t ht with rfl | ⟨h, q⟩
    · rfl
    · rw [wOf_snoc, if_neg (fun e => q e.symm), Nat.add_zero]
      exact B.w t h
  · rw [putA_keys]
    have hm : endsA s ∈ ps.map (fun t => (t.1, t.2.1)) ∨ endsA s = endsA r := by
      rcases List.mem_append.mp hs with h | h
      · exact .inl (B.all s h)
      · rw [List.mem_singleton.mp h]
        exact .inr rfl
    split
    · rename_i h
      rcases hm with q | q
      · exact q
      · rw [q]; exact h
    · rcases hm with q | q
      · exact List.mem_append_left _ q
      · rw [q]; exact List.mem_append_right _ List.mem_cons_self
theorem Book.get {n : Nat} {rs ps : List Arc} (B : Book n rs ps) (p : Nat × Nat) : ((valV (ps.map entA) (keyP p)).getD (.int 0)) = .int (wOf rs p) := by
  rw [valV_ents]
  cases h : ps.find? fun t => decide ((t.1, t.2.1) = p) with
  | none =>
    rw [List.find?_eq_none] at h
    have e : wOf rs p = 0 := wOf_none fun r hr e => by
      obtain ⟨t, ht, q⟩ := List.mem_map.mp (B.all r hr)
      exact h t ht (decide_eq_true (q.trans e))
    rw [e]
    rfl
  | some t =>
    have q := of_decide_eq_true (List.find?_some (p := fun t : Arc => decide ((t.1, t.2.1) = p)) h)
    have hw := B.w t (List.mem_of_find?_eq_some h)
    rw [q] at hw
    show V.int (t.2.2 : Int) = _
    rw [hw]
theorem Book.mem {n : Nat} {rs ps : List Arc} (B : Book n rs ps) (t : Arc) : t ∈ ps.filter (fun t => decide (0 < t.2.2)) ↔ t ∈ sumA n rs := by
  rw [List.mem_filter, mem_sumA, decide_eq_true_eq]
  constructor
  · rintro ⟨h1, h2⟩
    obtain ⟨h3, h4⟩ := B.lt t h1
    exact ⟨h3, h4, B.w t h1, h2⟩
  · rintro ⟨h1, h2, h3, h4⟩
    refine ⟨?_, h4⟩
    have hne : ∃ r ∈ rs, endsA r = (t.1, t.2.1) := Decidable.byContradiction fun c => by
      have := wOf_none (ts := rs) (p := (t.1, t.2.1)) fun r hr e => c ⟨r, hr, e⟩
      omega
    obtain ⟨r, hr, e⟩ := hne
    obtain ⟨u, hu, q⟩ := List.mem_map.mp (B.all r hr)
    have e2 : (u.1, u.2.1) = (t.1, t.2.1) := q.trans e
    have wu := B.w u hu
    rw [e2, ← h3] at wu
    injection e2 with q1 q2
    rw [← (Prod.ext q1 (Prod.ext q2 wu) : u = t)]
    exact hu
theorem Book.nodup {n : Nat} {rs ps : List Arc} (B : Book n rs ps) : (ps.filter fun t => decide (0 < t.2.2)).Nodup := by
  have h : ps.Nodup := by
    have := B.nd
    unfold List.Nodup at this ⊢
    rw [List.pairwise_map] at this
    exact this.imp fun {a b} h e => h (by rw [e])
  exact h.filter _
theorem Book.len {n : Nat} {rs ps : List Arc} (B : Book n rs ps) : ps.length ≤ n * n := by
  have h : (ps.map fun t => (t.1, t.2.1)).Nodup := B.nd
  have sub : ∀ p ∈ ps.map (fun t => (t.1, t.2.1)), p ∈ pairsN n := fun p hp => by
    obtain ⟨t, ht, rfl⟩ := List.mem_map.mp hp
    exact mem_pairsN.mpr (B.lt t ht)
  have l1 : (ps.map fun t => (t.1, t.2.1)).length ≤ (pairsN n).length := nodup_lenG h sub
  rw [List.length_map] at l1
  have l2 : (pairsN n).length ≤ n * n := by
    unfold pairsN
    rw [List.length_flatMap]
    have : ∀ l : List Nat, (l.map fun a => (((List.range n).filter fun b => decide (a < b)).map fun b => (a, b)).length).sum ≤ l.length * n := fun l => by
      induction l with
      | nil => simp
      | cons a l ih =>
        rw [List.map_cons, List.sum_cons, List.length_cons, Nat.succ_mul]
        have : (((List.range n).filter fun b => decide (a < b)).map fun b => (a, b)).length ≤ n := by
          rw [List.length_map]
          exact Nat.le_trans (List.length_filter_le _ _) (by rw [List.length_range]; exact Nat.le_refl _)
        omega
    have := this (List.range n)
    rw [List.length_range] at this
    exact this
  omega
end TW
set_option Elab.async false
set_option linter.all false
set_option maxRecDepth 100000
set_option maxHeartbeats 1000000
namespace TW
open PySem PySem.Spec PyProof.Rows L2
section
variable {P : Program} {w : World} {K : PySem.W.Frag} {mg : Str → Option Value} {base : Heap} {C N : Addr}
/-! is_place, is_told_tie, check_places -/
theorem sc_is_place : FnScope ["value", "places"] ["value", "places"] (defScope s_is_place) := ⟨rfl, rfl, rfl, by decide +kernel, rfl, by decide +kernel, by decide +kernel⟩
def spIsPlace : Sp := fun vs H Q _ => ∃ (i l : Int), vs = [.int i, .int l] ∧ Q (.bl (decide (0 ≤ i) && decide (i < l))) H
theorem ok_is_place (D : Dfn K mg "is_place" s_is_place ["value", "places"]) (O_is_integer : Ok P w K mg base 1 "is_integer" ["value", "least"] spIsInt) : Ok P w K mg base 2 "is_place" ["value", "places"] spIsPlace := D.ok fun f fd F => by
  refine F.ok sc_is_place (fun vs H Q E h => ?_) (fun cdv A outer s H vs Q E hr h => ?_)
  · obtain ⟨i, l, rfl, _⟩ := h
    rfl
  · obtain ⟨i, l, rfl, q⟩ := h
    refine ⟨_, (pss_one (ps_ret (pe_and (pe_o O_is_integer hr (pa_cons (pv 0) (pa_cons pe_int pa_nil))) (pe_one (pe_cmpR op_lt (pv 0) (pv 1) (nomark _)))))), ?_⟩
    refine ⟨_, rfl, _, _, rfl, _, rfl, ?_⟩
    cases h0 : decide (0 ≤ i) with
    | false =>
      rw [h0] at q
      exact q
    | true =>
      rw [h0] at q
      exact ⟨_, rfl, _, rfl, _, _, rfl, rfl, q⟩
theorem sc_is_told_tie : FnScope ["value", "places", "place", "other_place", "weight"] ["value", "places"] (defScope s_is_told_tie) := ⟨rfl, rfl, rfl, by decide +kernel, rfl, by decide +kernel, by decide +kernel⟩
def spToldTie : Sp := fun vs H Q _ => ∃ (v : V) (n : Nat) (t : Arc), vs = [v, .int n] ∧ At H v (arcD t) ∧ arcOk n t ∧ Q (.bl true) H
theorem ok_is_told_tie (D : Dfn K mg "is_told_tie" s_is_told_tie ["value", "places"]) (z : Z mg) (O_is_integer : Ok P w K mg base 1 "is_integer" ["value", "least"] spIsInt) (O_is_place : Ok P w K mg base 2 "is_place" ["value", "places"] spIsPlace) : Ok P w K mg base 3 "is_told_tie" ["value", "places"] spToldTie := D.ok fun f fd F => by
  refine F.ok sc_is_told_tie (fun vs H Q E h => ?_) (fun cdv A outer s H vs Q E hr h => ?_)
  · obtain ⟨v, n, t, rfl, _⟩ := h
    rfl
  · obtain ⟨v, n, t, rfl, hv, ⟨h1, h2, h3⟩, q⟩ := h
    obtain ⟨a, rfl, ha⟩ := hv.arc
    refine ⟨_, (pss_cons (ps_if (PW.pt (pw_or (pt_cmpR op_isNotTy (pe_callTy call_type1 (by rfl) z.type (by decide +kernel) (pa_cons (pv 0) pa_nil)) (pe_tyn (n := "tuple") (by rfl) z.tuple (by decide +kernel)) (nomark _)) (pw_or1 (pt_cmpR op_ne (pe_callB call_len_seq (by rfl) z.len PySem.boot_len (pa_cons (pv 0) pa_nil)) pe_int (nomark _))))) (pss_one (ps_ret pe_bl)) pss_nil)
      (pss_cons (ps_asg (pv 0) (pg_tup rfl (pgs_cons (pg_name (i := 2) sc_is_told_tie.nd rfl (Or.inl rfl)) (pgs_cons (pg_name (i := 3) sc_is_told_tie.nd rfl (Or.inl rfl)) (pgs_cons (pg_name (i := 4) sc_is_told_tie.nd rfl (Or.inl rfl)) pgs_nil)))))
      (pss_cons (ps_if (PW.pt (pw_or (pt_not (pt_val (pe_o O_is_place hr (pa_cons (pv 2) (pa_cons (pv 1) pa_nil))))) (pw_or1 (pt_not (pt_val (pe_o O_is_place hr (pa_cons (pv 3) (pa_cons (pv 1) pa_nil)))))))) (pss_one (ps_ret pe_bl)) pss_nil)
      (pss_one (ps_ret (pe_and (pe_cmpR op_ne (pv 2) (pv 3) (nomark _)) (pe_one (pe_o O_is_integer (hr.mono (by decide)) (pa_cons (pv 4) (pa_cons pe_int pa_nil)))))))))), ?_⟩
    refine ⟨_, rfl, _, _, rfl, .tup (Evl.st_of ha), _, _, rfl, rfl, _, rfl, ?_⟩
    refine ⟨_, rfl, a, _, rfl, .inr (Evl.st_of ha), rfl, _, rfl, ?_⟩
    refine ⟨_, rfl, a, _, rfl, Evl.st_of ha, rfl, ?_⟩
    refine ⟨_, _, rfl, _, _, rfl, _, _, rfl, rfl, ?_⟩
    have b1 : (decide (0 ≤ (t.1 : Int)) && decide ((t.1 : Int) < (n : Int))) = true := by rw [Bool.and_eq_true]; exact ⟨decide_eq_true (by omega), decide_eq_true (by omega)⟩
    have b2 : (decide (0 ≤ (t.2.1 : Int)) && decide ((t.2.1 : Int) < (n : Int))) = true := by rw [Bool.and_eq_true]; exact ⟨decide_eq_true (by omega), decide_eq_true (by omega)⟩
    refine ⟨_, rfl, _, rfl, _, _, rfl, ?_⟩
    rw [b1]
    refine ⟨_, rfl, _, rfl, _, rfl, _, _, rfl, ?_⟩
    rw [b2]
    refine ⟨_, rfl, ?_⟩
    refine ⟨_, rfl, _, rfl, rfl, ?_⟩
    have hne : ¬ (V.int (t.1 : Int) = V.int (t.2.1 : Int)) := fun e => h3 (by have := V.int.inj e; omega)
    rw [decide_eq_false hne]
    refine ⟨_, rfl, _, rfl, _, _, rfl, ?_⟩
    rw [decide_eq_true (show (0 : Int) ≤ (t.2.2 : Int) by omega)]
    exact q
theorem sc_check_places : FnScope ["places"] ["places"] (defScope s_check_places) := ⟨rfl, rfl, rfl, by decide +kernel, rfl, by decide +kernel, by decide +kernel⟩
theorem ok_check_places (D : Dfn K mg "check_places" s_check_places ["places"]) (O_is_integer : Ok P w K mg base 1 "is_integer" ["value", "least"] spIsInt) : Ok P w K mg base 2 "check_places" ["places"] spCheckThings := D.ok fun f fd F => by
  refine F.ok sc_check_places (fun vs H Q E h => ?_) (fun cdv A outer s H vs Q E hr h => ?_)
  · obtain ⟨n, rfl, _⟩ := h
    rfl
  · obtain ⟨n, rfl, hn, q⟩ := h
    refine ⟨_, (pss_one (ps_if (pt_not (pt_val (pe_o O_is_integer hr (pa_cons (pv 0) (pa_cons pe_int pa_nil))))) (pss_one ps_never) pss_nil)), ?_⟩
    refine ⟨_, rfl, n, 1, rfl, ?_⟩
    rw [decide_eq_true (show (1 : Int) ≤ n by omega)]
    exact ⟨_, rfl, q⟩
/-! ends_of -/
theorem sc_ends_of : FnScope ["place", "other_place"] ["place", "other_place"] (defScope s_ends_of) := ⟨rfl, rfl, rfl, by decide +kernel, rfl, by decide +kernel, by decide +kernel⟩
def spEnds : Sp := fun vs H Q _ => ∃ (a b : Nat), vs = [.int a, .int b] ∧ ∀ t, H t = none → Q (.ref t) (upd H t (.tup [.int (min a b : Nat), .int (max a b : Nat)]))
theorem ok_ends_of (D : Dfn K mg "ends_of" s_ends_of ["place", "other_place"]) (zmin : mg "min" = none) (zmax : mg "max" = none) : Ok P w K mg base 1 "ends_of" ["place", "other_place"] spEnds := D.ok fun f fd F => by
  refine F.ok sc_ends_of (fun vs H Q E h => ?_) (fun cdv A outer s H vs Q E hr h => ?_)
  · obtain ⟨a, b, rfl, _⟩ := h
    rfl
  · obtain ⟨a, b, rfl, q⟩ := h
    refine ⟨_, (pss_one (ps_ret (pe_tup (pa_cons (pe_callB (call_min2 rfl) (by rfl) zmin (by decide +kernel) (pa_cons (pv 0) (pa_cons (pv 1) pa_nil))) (pa_cons (pe_callB (call_max2 rfl) (by rfl) zmax (by decide +kernel) (pa_cons (pv 0) (pa_cons (pv 1) pa_nil))) pa_nil))))), ?_⟩
    refine ⟨_, rfl, _, rfl, _, _, rfl, _, rfl, _, rfl, _, _, rfl, sz (by show 2 ≤ 100000; decide), fun t nt => ?_⟩
    have e1 : (if (b : Int) < (a : Int) then (b : Int) else a) = ((min a b : Nat) : Int) := by
      split <;> omega
    have e2 : (if (b : Int) > (a : Int) then (b : Int) else a) = ((max a b : Nat) : Int) := by
      split <;> omega
    rw [e1, e2]
    exact q t nt
/-! _joined_ties -/
abbrev NJT : List Str := ["ties", "weights", "place", "other_place", "weight", "ends", "low", "high"]
theorem sc__joined_ties : FnScope NJT ["ties"] (defScope s__joined_ties) := ⟨rfl, rfl, rfl, by decide +kernel, rfl, by decide +kernel, by decide +kernel⟩
def spJoined : Sp := fun vs H Q _ => ∃ (G : Hp) (l : List (Addr × HO)) (a : Addr) (xs : List V) (n : Nat) (ts : List Arc), vs = [.ref a] ∧ Has G H l ∧ Stays G l a (.lst xs) ∧ Ats G xs (ts.map arcD) ∧ (∀ t ∈ ts, arcOk n t) ∧ ts.length ≤ 1000 ∧ n ≤ 100 ∧
  ∀ (G' H' : Hp) (u : Addr) (ys : List V), Ex G G' → Has G' H' ((u, .tup ys) :: l) → Ats G' ys ((sumA n ts).map arcD) → Q (.ref u) H'
theorem ok_joined (D : Dfn K mg "_joined_ties" s__joined_ties ["ties"]) (z : Z mg) (O_ends : Ok P w K mg base 1 "ends_of" ["place", "other_place"] spEnds) : Ok P w K mg base 2 "_joined_ties" ["ties"] spJoined := D.ok fun f fd F => by
  refine F.ok sc__joined_ties (fun vs H Q E h => ?_) (fun cdv A outer s H vs Q E hr h => ?_)
  · obtain ⟨G, l, a, xs, n, ts, rfl, _⟩ := h
    rfl
  · obtain ⟨G, l, a, xs, n, ts, rfl, S, st, hx, hok, lts, ln, q⟩ := h
    have hu1 : (A.deeper (envOfC "_joined_ties" (defScope s__joined_ties) s.heap.objs.size f cdv)).units + 1 < cLine := by
      have := hr.units
      omega
    refine ⟨_, (pss_cons (ps_set (i := 1) sc__joined_ties.nd rfl (Or.inl rfl) pe_dnewT)
      (pss_cons (ps_for PassesOwn.never rfl (pi_list (pv 0)) (pg_tup rfl (pgs_cons (pg_name (i := 2) sc__joined_ties.nd rfl (Or.inl rfl)) (pgs_cons (pg_name (i := 3) sc__joined_ties.nd rfl (Or.inl rfl)) (pgs_cons (pg_name (i := 4) sc__joined_ties.nd rfl (Or.inl rfl)) pgs_nil))))
        (pss_cons (ps_set (i := 5) sc__joined_ties.nd rfl (Or.inl rfl) (pe_o O_ends hr (pa_cons (pv 2) (pa_cons (pv 3) pa_nil))))
        (pss_one (ps_asg (pe_op op_add (pe_dget2 hu1 (pv 1) (pv 5) pe_int ⟨rfl, rfl, rfl, rfl⟩) (pv 4)) (pg_sub (pv 1) (pv 5) (set_dict hu1))))))
      (pss_one (ps_ret (pe_callTy call_tuple_of (by rfl) z.tuple (by decide +kernel) (pa_cons (pe_callB (cr_sortE (K := K) hr.units) (by rfl) z.sorted (by decide +kernel) (pa_cons (pe_lock (pe_lc (own := [("low", 6), ("high", 7), ("weight", 4)]) (g := gTup K 2 (gCons (gTup K 2 (gCons (gName 6) (gCons (gName 7) gNil))) (gCons (gName 4) gNil))) rfl sc__joined_ties.nd (pi_itemsT (pv 1)) (blkOk_by (N := NJT) (own := [("low", 6), ("high", 7), ("weight", 4)]) (sc := defScope s__joined_ties) (by decide +kernel)) (fun _ _ _ _ _ => pg_tup rfl (pgs_cons (pg_tup rfl (pgs_cons (pg_name (i := 6) sc__joined_ties.nd rfl (Or.inl rfl)) (pgs_cons (pg_name (i := 7) sc__joined_ties.nd rfl (Or.inl rfl)) pgs_nil))) (pgs_cons (pg_name (i := 4) sc__joined_ties.nd rfl (Or.inl rfl)) pgs_nil)))
        (fun _ _ _ _ _ => pts_one (pt_cmpR op_gt (pv 4) pe_int (nomark _))) (fun _ _ _ _ _ => (pe_tup (pa_cons (pv 6) (pa_cons (pv 7) (pa_cons (pv 4) pa_nil))))))) pa_nil)) pa_nil)))))), ?_⟩
    refine fun dd ndd => ?_
    have S1 := S.new (o := .dT []) ndd
    generalize upd H dd (.dT []) = H1 at S1
    refine ⟨_, rfl, a, rfl, ⟨_, Evl.sq_of (st _ S1.tail)⟩, for_list (K := K) (a := a) (xs := xs) (fun i σ H' => ∃ (G' : Hp) (v2 v3 v4 v5 v6 v7 : Option V) (ps : List Arc), σ = [some (.ref a), some (.ref dd), v2, v3, v4, v5, v6, v7] ∧ Ex G G' ∧ Has G' H' ((dd, .dT (ps.map entA)) :: l) ∧ Book n (ts.take i) ps)
      ⟨G, none, none, none, none, none, none, [], rfl, Evl.Ex.refl _, S1, ⟨List.nodup_nil, fun t h => absurd h List.not_mem_nil, fun t h => absurd h List.not_mem_nil, fun t h => absurd h List.not_mem_nil⟩⟩ (fun i σ H' _ p => by
        obtain ⟨G', _, _, _, _, _, _, ps, _, e, S', _⟩ := p
        exact Evl.sq_of (st _ (S'.tail.down e))) ?_ ?_⟩
    · rintro i x σ H2 hi ⟨G2, v2, v3, v4, v5, v6, v7, ps, rfl, e2, S2, B⟩
      obtain ⟨t, ht, ax⟩ := ats_get hx hi
      have hok2 := hok t (List.mem_of_getElem? ht)
      obtain ⟨b, rfl, hb⟩ := (ax.ex (e2.trans S2.ex)).arc
      refine ⟨b, _, rfl, Evl.st_of hb, rfl, _, _, rfl, _, _, rfl, _, _, rfl, rfl, ?_⟩
      refine ⟨_, rfl, _, rfl, t.1, t.2.1, rfl, fun u nu => ?_⟩
      have S3 := S2.new (o := .tup [.int (min t.1 t.2.1 : Nat), .int (max t.1 t.2.1 : Nat)]) nu
      generalize upd H2 u (.tup [.int (min t.1 t.2.1 : Nat), .int (max t.1 t.2.1 : Nat)]) = H3 at S3
      have hu : H3 u = some (.tup ((keyP (endsA t)).map kV)) := S3.get 0 rfl
      have hd : H3 dd = some (.dT (ps.map entA)) := S3.get 1 rfl
      refine ⟨_, rfl, dd, rfl, .inr ⟨_, .inl hd⟩, _, rfl, _, DGet.t hd hu, ?_⟩
      rw [B.get]
      refine ⟨_, rfl, _, _, rfl, rfl, ?_⟩
      have len := B.len
      have nn : n * n ≤ 100 * 100 := Nat.mul_le_mul ln ln
      have ew : (wOf (ts.take i) (endsA t) : Int) + (t.2.2 : Int) = ((wOf (ts.take i ++ [t]) (endsA t) : Nat) : Int) := by
        rw [wOf_snoc, if_pos rfl]
        push_cast
        rfl
      refine ⟨_, rfl, _, rfl, dd, _, rfl, DPut.t hd hu (by rw [List.length_map]; have : sizeLine = 16777216 := sizeLine_eq; omega), ?_⟩
      have S4 : Has _ _ ((dd, .dT ((putA ps (endsA t) (wOf (ts.take i ++ [t]) (endsA t))).map entA)) :: l) := S3.sink.set 0 rfl
      rw [← putK_ents, ← ew] at S4
      refine ⟨_, _, _, _, _, _, _, putA ps (endsA t) (wOf (ts.take i ++ [t]) (endsA t)), rfl, e2.trans S3.exS, ?_, ?_⟩
      · rw [← putK_ents, ← ew]
        exact S4
      · rw [take_snoc ht]
        exact B.put hok2
    · rintro σ H2 ⟨G2, v2, v3, v4, v5, v6, v7, ps, rfl, e2, S2, B⟩
      have lx : xs.length = ts.length := by rw [hx.1, List.length_map]
      rw [lx, List.take_length] at B
      have len := B.len
      have nn : n * n ≤ 100 * 100 := Nat.mul_le_mul ln ln
      refine ⟨dd, .dT (ps.map entA), S2.get 0 rfl, trivial, fun od => ?_⟩
      have S3 : Has G2 _ ((dd, .frz od (.dT (ps.map entA))) :: l) := S2.set 0 rfl
      generalize upd H2 dd (.frz od (.dT (ps.map entA))) = H3 at S3
      refine ⟨_, rfl, dd, od, ps.map entA, rfl, S3.get 0 rfl, fun Dl nDl => ?_⟩
      refine lc_it walk_itemsT (fun i H' => ∃ (G' : Hp) (ys : List V), Ex G2 G' ∧ Has G' H' ((Dl, .lst ys) :: (dd, .frz od (.dT (ps.map entA))) :: l) ∧ Ats G' ys (((ps.take i).filter fun t => decide (0 < t.2.2)).map arcD)) ⟨G2, [], Evl.Ex.refl _, S3.new nDl, .nil⟩ (fun i H' _ p => by
        obtain ⟨G', ys, _, S', _⟩ := p
        exact S'.get 1 rfl) ?_ ?_
      · rintro i x H4 H5 hi ⟨G4, ys, e4, S4, ay⟩ ⟨T, kq, k, v, hk, rfl, nT, hq, rfl⟩
        rw [List.getElem?_map] at hk
        obtain ⟨t, ht, et⟩ := Option.map_eq_some_iff.mp hk
        cases et
        have ltk := (List.getElem?_eq_some_iff.mp ht).1
        have ly : ys.length ≤ ps.length := by
          rw [ay.1, List.length_map]
          exact Nat.le_trans (List.length_filter_le _ _) (List.length_take_le' _ _)
        have S5 := S4.new (o := .tup [.ref kq, .int t.2.2]) nT
        have hq5 : (upd H4 T (.tup [.ref kq, .int t.2.2])) kq = some (.tup ((keyP (t.1, t.2.1)).map kV)) := Evl.Ex.new nT _ _ hq
        generalize upd H4 T (.tup [.ref kq, .int t.2.2]) = H5 at S5 hq5
        refine ⟨T, _, rfl, Evl.st_of (S5.get 0 rfl), rfl, _, _, rfl, kq, _, rfl, Evl.st_of hq5, rfl, _, _, rfl, _, _, rfl, rfl, _, _, rfl, rfl, rfl, ?_⟩
        refine ⟨_, rfl, _, _, rfl, rfl, _, rfl, ?_⟩
        have S6 := S5.tail
        cases hw : decide (0 < t.2.2) with
        | true =>
          have hw0 := of_decide_eq_true hw
          rw [show decide ((t.2.2 : Int) > 0) = true from decide_eq_true (by omega)]
          refine ⟨_, rfl, _, rfl, _, rfl, sz (by show 3 ≤ 100000; decide), fun u nu => ?_⟩
          have S7 := S6.new (o := .tup [.int t.1, .int t.2.1, .int t.2.2]) nu
          have S8 : Has (upd G4 u (.tup [.int t.1, .int t.2.1, .int t.2.2])) (upd (upd H5 u (.tup [.int t.1, .int t.2.1, .int t.2.2])) Dl (.lst (ys ++ [.ref u]))) ((Dl, .lst (ys ++ [.ref u])) :: (dd, .frz od (.dT (ps.map entA))) :: l) := S7.sink.set 0 rfl
          refine ⟨ys, S7.get 1 rfl, by have : sizeLine = 16777216 := sizeLine_eq; omega, (upd G4 u (.tup [.int t.1, .int t.2.1, .int t.2.2])), (ys ++ [V.ref u]), e4.trans S7.exS, S8, ?_⟩
          rw [filt_yes (f := fun t : Arc => decide (0 < t.2.2)) ht hw, List.map_append]
          exact (ay.ex S7.exS).snoc (at_arc upd_same)
        | false =>
          have hw0 := of_decide_eq_false hw
          rw [show decide ((t.2.2 : Int) > 0) = false from decide_eq_false (by omega)]
          refine ⟨G4, ys, e4, S6, ?_⟩
          rw [filt_no (f := fun t : Arc => decide (0 < t.2.2)) ht hw]
          exact ay
      · rintro H4 ⟨G4, ys, e4, S4, ay⟩
        rw [List.length_map, List.take_length] at ay
        have S5 : Has G4 _ ((Dl, .lst ys) :: (dd, .dT (ps.map entA)) :: l) := S4.set 1 rfl
        refine ⟨S4.get 1 rfl, ?_⟩
        generalize upd H4 dd (.dT (ps.map entA)) = H5 at S5
        obtain ⟨z1, z2, z3⟩ := ats_zip ay
        have memz : ∀ c ∈ ys.zip ((ps.filter fun t => decide (0 < t.2.2)).map arcD), ∃ l, c.2 = tupD l := fun c hc => by
          have : c.2 ∈ (ps.filter fun t => decide (0 < t.2.2)).map arcD := by
            rw [← z2]
            exact List.mem_map_of_mem hc
          obtain ⟨m, _, ec⟩ := List.mem_map.mp this
          exact ⟨_, ec.symm⟩
        refine ⟨Dl, _, rfl, by rw [z1]; exact Evl.sq_of (S5.get 0 rfl), fun c hc => ((z3 c hc).ex S5.ex).dp, .inr memz, fun c hc => ?_, fun p np => ?_⟩
        · obtain ⟨l, el⟩ := memz c hc
          rw [el]
          exact Nat.le_trans (depth_tupD _) (by decide)
        have fin := ats_sort z3
        rw [z2, sort_arcs B.nodup B.mem] at fin
        generalize hZ : ((ys.zip ((ps.filter fun t => decide (0 < t.2.2)).map arcD)).mergeSort (PySem.W.dataLe false (·.2))).map (·.1) = Zs at fin
        have S6 := (S5.new (o := .lst Zs) np).drop2.drop2
        generalize upd H5 p (.lst Zs) = H6 at S6
        refine ⟨p, _, rfl, .inl ⟨Evl.sq_of (S6.get 0 rfl), fun t nt => ?_⟩⟩
        have S7 := (S6.new (o := .tup Zs) nt).drop2
        exact q G4 _ t Zs (e2.trans e4) S7 fin
end
end TW
set_option Elab.async false
set_option linter.all false
set_option maxRecDepth 100000
set_option maxHeartbeats 1000000
namespace TW
open PySem PySem.Spec PyProof.Rows L2
/-! webs -/
theorem wt_ne : ¬ (("_ties" : Str) = "_places") := by decide +kernel
def wf (n : Nat) (l : Addr) : List (Str × V) := putF "_ties" (.ref l) (putF "_places" (.int n) [])
theorem wf_places (n : Nat) (l : Addr) : (wf n l).lookup ("_places" : Str) = some (.int n) := by
  unfold wf
  rw [lookup_putF, if_neg (fun h => wt_ne h.symm), lookup_putF, if_pos rfl]
theorem wf_ties (n : Nat) (l : Addr) : (wf n l).lookup ("_ties" : Str) = some (.ref l) := by
  unfold wf
  rw [lookup_putF, if_pos rfl]
def WebAt (C : Addr) (H : Hp) (a : Addr) (n : Nat) (ts : List Arc) : Prop := ∃ dx l xs, H a = some (.ins C dx (wf n l)) ∧ H l = some (.tup xs) ∧ Ats H xs (ts.map arcD)
theorem WebAt.ex {C : Addr} {H H' : Hp} {a : Addr} {n : Nat} {ts : List Arc} (e : Ex H H') (h : WebAt C H a n ts) : WebAt C H' a n ts := by
  obtain ⟨dx, l, xs, h1, h2, h3⟩ := h
  exact ⟨dx, l, xs, e _ _ h1, e _ _ h2, h3.ex e⟩
/-- a web of n places with these sums -/
structure Net (n : Nat) (ts : List Arc) : Prop where
  pos : 0 < n
  few : n ≤ 100
  sum : sumA n ts = ts
theorem Net.ok {n : Nat} {ts : List Arc} (h : Net n ts) : ∀ t ∈ ts, t.1 < t.2.1 ∧ t.2.1 < n ∧ 0 < t.2.2 := fun t ht => by
  rw [← h.sum] at ht
  obtain ⟨h1, h2, _, h4⟩ := mem_sumA.mp ht
  exact ⟨h1, h2, h4⟩
theorem sumA_len (n : Nat) (ts : List Arc) : (sumA n ts).length ≤ n * n := by
  have B : Book n (sumA n ts) (sumA n ts) := ⟨by
    unfold List.Nodup
    rw [List.pairwise_map]
    exact (sumA_pw n ts).imp fun {a b} h e => by
      injection e with e1 e2
      omega, fun t ht => ⟨(mem_sumA.mp ht).1, (mem_sumA.mp ht).2.1⟩, fun t ht => by
      obtain ⟨h1, h2, h3, _⟩ := mem_sumA.mp ht
      rw [wOf_sumA h1 h2]
      exact h3, fun t ht => by
      obtain ⟨h1, _⟩ := mem_sumA.mp ht
      refine List.mem_map.mpr ⟨t, ht, ?_⟩
      unfold endsA
      rw [Nat.min_eq_left (by omega), Nat.max_eq_right (by omega)]⟩
  exact B.len
theorem Net.len {n : Nat} {ts : List Arc} (h : Net n ts) : ts.length ≤ 10000 := by
  have h1 := sumA_len n ts
  rw [h.sum] at h1
  have h2 : n * n ≤ 100 * 100 := Nat.mul_le_mul h.few h.few
  omega
theorem net_sum {n : Nat} (ts : List Arc) (h : 0 < n) (h' : n ≤ 100) : Net n (sumA n ts) := ⟨h, h', sumA_idem ts⟩
structure WC (K : PySem.W.Frag) (mg : Str → Option Value) (C : Addr) : Prop where
  cl : Cls K C
  ins : C8.InsC K C
  nP : NoAttr K C "_places"
  nT : NoAttr K C "_ties"
  mg : mg "Web" = some (.ref C)
def cutA (ts : List Arc) (f : Nat → Bool) : Nat := ((ts.filter fun t => f t.1 != f t.2.1).map fun t => t.2.2).sum
theorem eqvW_ints : ∀ xs ys : List Int, PyData.eqvAll (xs.map .int) (ys.map .int) = decide (xs = ys)
  | [], [] => rfl
  | [], _ :: _ => rfl
  | _ :: _, [] => rfl
  | x :: xs, y :: ys => by
    have e : PyData.eqvAll ((x :: xs).map .int) ((y :: ys).map .int) = (x == y && PyData.eqvAll (xs.map .int) (ys.map .int)) := rfl
    rw [e, eqvW_ints xs ys, Bool.eq_iff_iff, Bool.and_eq_true, beq_iff_eq, decide_eq_true_eq, decide_eq_true_eq, List.cons.injEq]
theorem eqvW_tupD (xs ys : List Int) : PyData.eqv (tupD xs) (tupD ys) = decide (xs = ys) := eqvW_ints xs ys
theorem layW_lots : ∀ {ds : List PyData}, (∀ d ∈ ds, ∃ l, d = tupD l) → PyData.canLayAll0 ds = true
  | [], _ => rfl
  | d :: ds, h => by
    obtain ⟨l, rfl⟩ := h d List.mem_cons_self
    show (PyData.canLay0 (tupD l) && PyData.canLayAll0 ds) = true
    rw [layW_lots fun e he => h e (List.mem_cons_of_mem _ he), Bool.and_true]
    exact lay_ints l
theorem decI (a b : Nat) : decide (V.int (a : Int) = V.int (b : Int)) = decide (a = b) := by
  rw [Bool.eq_iff_iff, decide_eq_true_eq, decide_eq_true_eq]
  constructor
  · intro h
    have := V.int.inj h
    omega
  · rintro rfl
    rfl
theorem sum_cast : ∀ l : List Nat, ((l.map fun k : Nat => (k : Int)).sum) = ((l.sum : Nat) : Int)
  | [] => rfl
  | x :: l => by
    rw [List.map_cons, List.sum_cons, List.sum_cons, sum_cast l]
    push_cast
    rfl
section
variable {P : Program} {w : World} {K : PySem.W.Frag} {mg : Str → Option Value} {base : Heap} {C N : Addr}
/-! Web.__init__ -/
abbrev NWI : List Str := ["self", "places", "ties", "tie"]
theorem sc_Web_init : FnScope NWI ["self", "places", "ties"] (defScope s_Web_init) := ⟨rfl, rfl, rfl, by decide +kernel, rfl, by decide +kernel, by decide +kernel⟩
def spWInit (C : Addr) : Sp := fun vs H Q _ => ∃ (G : Hp) (l : List (Addr × HO)) (a dx ll : Addr) (n : Nat) (xs : List V) (ts : List Arc), vs = [.ref a, .int n, .ref ll] ∧ Has G H ((a, .ins C dx []) :: l) ∧ Stays G l ll (.lst xs) ∧ Ats G xs (ts.map arcD) ∧ (∀ t ∈ ts, arcOk n t) ∧ ts.length ≤ 1000 ∧ 0 < n ∧ n ≤ 100 ∧
  ∀ (G' H' : Hp) (dl : Addr) (ys : List V), Ex G G' → Has G' H' ((a, .ins C dx (wf n dl)) :: l) → G' dl = some (.tup ys) → Ats G' ys ((sumA n ts).map arcD) → Q .non H'
theorem ok_winit {f : Addr} {fd : FuncData} (F : Fun K "__init__" "Web.__init__" s_Web_init f fd) (z : Z mg) (T : WC K mg C) (O_check_places : Ok P w K mg base 2 "check_places" ["places"] spCheckThings) (O_told : Ok P w K mg base 3 "is_told_tie" ["value", "places"] spToldTie) (O_joined : Ok P w K mg base 2 "_joined_ties" ["ties"] spJoined) :
    FnOk P w K mg base CX0 4 f fd ["self", "places", "ties"] (spWInit C) := by
  refine F.ok sc_Web_init (fun vs H Q E h => ?_) (fun cdv A outer s H vs Q E hr h => ?_)
  · obtain ⟨G, l, a, dx, ll, n, xs, ts, rfl, _⟩ := h
    rfl
  · obtain ⟨G, l, a, dx, ll, n, xs, ts, rfl, S, st, hx, hok, lts, hn, hn100, q⟩ := h
    refine ⟨_, (pss_cons (ps_expr (pe_o O_check_places (hr.mono (by decide)) (pa_cons (pv 1) pa_nil)))
      (pss_cons (ps_if (PW.pt (pw_or (pt_cmpR op_isNotTy (pe_callTy call_type1 (by rfl) z.type (by decide +kernel) (pa_cons (pv 2) pa_nil)) (pe_tyn (n := "list") (by rfl) z.list (by decide +kernel)) (nomark _)) (pw_or1 (pt_not (pt_val (pe_callB (cr_all rfl) (by rfl) z.all (by decide +kernel) (pa_cons (pe_lc (own := [("tie", 3)]) (g := gName 3) rfl sc_Web_init.nd (pi_list (pv 2)) (blkOk_by (N := NWI) (own := [("tie", 3)]) (sc := defScope s_Web_init) (by decide +kernel)) (fun _ _ _ _ _ => pg_name (i := 3) sc_Web_init.nd rfl (Or.inl rfl)) (fun _ _ _ _ _ => pts_nil) (fun _ _ _ _ _ => (pe_o O_told hr (pa_cons (pv 3) (pa_cons (pv 1) pa_nil))))) pa_nil))))))) (pss_one ps_never) pss_nil)
      (pss_cons (ps_fld (pv 0) (pv 1) rfl)
      (pss_one (ps_fld (pv 0) (pe_o O_joined (hr.mono (by decide)) (pa_cons (pv 2) pa_nil)) rfl))))), ?_⟩
    have hll : ∀ {H' : Hp} {l' : List (Addr × HO)}, Has G H' (l' ++ l) → H' ll = some (.lst xs) := fun {H' l'} S' => st _ (S'.sub (List.sublist_append_right _ _))
    have hl0 : H ll = some (.lst xs) := hll (l' := [_]) S
    refine ⟨_, rfl, n, rfl, hn, ?_⟩
    refine ⟨_, rfl, _, _, rfl, .lst (Evl.sq_of hl0), _, _, rfl, rfl, _, rfl, ?_⟩
    refine ⟨_, rfl, ll, rfl, ⟨_, Evl.sq_of hl0⟩, fun Dl hD => ?_⟩
    have lx : xs.length = ts.length := by rw [hx.1, List.length_map]
    refine lc_list (K := K) (a := ll) (xs := xs) (fun i H' => Has G H' ((Dl, .lst ((List.replicate i true).map V.bl)) :: (a, .ins C dx []) :: l)) (S.new hD) (fun i H' _ S' => Evl.sq_of (hll (l' := [_, _]) S')) ?_ ?_
    · rintro i x H1 hi S1
      obtain ⟨t, ht, ax⟩ := ats_get hx hi
      have hi2 := (List.getElem?_eq_some_iff.mp ht).1
      refine ⟨rfl, _, rfl, _, rfl, x, n, t, rfl, ax.ex S1.ex, hok t (List.mem_of_getElem? ht), ?_⟩
      refine ⟨_, S1.get 0 rfl, szl (by rw [List.length_map, List.length_replicate]; omega), ?_⟩
      rw [List.replicate_succ', List.map_append]
      exact S1.set 0 rfl
    · rintro H1 S1
      refine ⟨Dl, _, rfl, Evl.sq_of (S1.get 0 rfl), _, rfl, ?_⟩
      rw [show (List.replicate xs.length true).all id = true by simp]
      have S2 := S1.tail
      refine ⟨_, rfl, _, rfl, a, C, dx, [], rfl, S2.get 0 rfl, T.cl, T.nP, (by show 0 < 1000; decide), ?_⟩
      have S3 : Has G _ ((a, .ins C dx (putF "_places" (.int n) [])) :: l) := S2.set 0 rfl
      generalize upd H1 a (.ins C dx (putF "_places" (.int n) [])) = H3 at S3
      refine ⟨_, rfl, G, (a, .ins C dx (putF "_places" (.int n) [])) :: l, ll, xs, n, ts, rfl, S3, st.down (Evl.Ex.refl _) (List.sublist_cons_self _ _), hx, hok, lts, hn100, fun G' H' u ys e' S' hy => ?_⟩
      refine ⟨_, rfl, a, C, dx, _, rfl, S'.get 1 rfl, T.cl, T.nT, (by show 1 < 1000; decide), ?_⟩
      have S4 : Has G' _ ((u, .tup ys) :: (a, .ins C dx (wf n u)) :: l) := S'.set 1 rfl
      exact q _ _ u ys (e'.trans S4.exS) S4.sink upd_same (hy.ex S4.exS)
/-! Web.places, Web.ties, Web.__len__, Web.__iter__, Web.__eq__ -/
theorem sc_Web_places : FnScope ["self"] ["self"] (defScope s_Web_places) := ⟨rfl, rfl, rfl, by decide +kernel, rfl, by decide +kernel, by decide +kernel⟩
def spWPlaces (C : Addr) : Sp := fun vs H Q _ => ∃ (a : Addr) (n : Nat) (ts : List Arc), vs = [.ref a] ∧ WebAt C H a n ts ∧ Q (.int n) H
theorem ok_wplaces {f : Addr} {fd : FuncData} (F : Fun K "places" "Web.places" s_Web_places f fd) (T : WC K mg C) : FnOk P w K mg base CX0 1 f fd ["self"] (spWPlaces C) := by
  refine F.ok sc_Web_places (fun vs H Q E h => ?_) (fun cdv A outer s H vs Q E hr h => ?_)
  · obtain ⟨a, n, ts, rfl, _⟩ := h
    rfl
  · obtain ⟨a, n, ts, rfl, ⟨dx, l, xs, h1, h2, h3⟩, q⟩ := h
    exact ⟨_, pss_one (ps_ret (pe_fld (pv 0) rfl)), _, rfl, a, C, dx, _, _, rfl, h1, T.cl, T.nP, wf_places n l, q⟩
theorem sc_Web_ties : FnScope ["self"] ["self"] (defScope s_Web_ties) := ⟨rfl, rfl, rfl, by decide +kernel, rfl, by decide +kernel, by decide +kernel⟩
def spWTies (C : Addr) : Sp := fun vs H Q _ => ∃ (a : Addr) (n : Nat) (ts : List Arc), vs = [.ref a] ∧ WebAt C H a n ts ∧ ∀ (t : Addr) (H' : Hp) (xs : List V), H t = none → Ex H H' → H' t = some (.lst xs) → Ats H' xs (ts.map arcD) → Q (.ref t) H'
theorem ok_wties {f : Addr} {fd : FuncData} (F : Fun K "ties" "Web.ties" s_Web_ties f fd) (z : Z mg) (T : WC K mg C) : FnOk P w K mg base CX0 1 f fd ["self"] (spWTies C) := by
  refine F.ok sc_Web_ties (fun vs H Q E h => ?_) (fun cdv A outer s H vs Q E hr h => ?_)
  · obtain ⟨a, n, ts, rfl, _⟩ := h
    rfl
  · obtain ⟨a, n, ts, rfl, ⟨dx, l, xs, h1, h2, h3⟩, q⟩ := h
    exact ⟨_, pss_one (ps_ret (pe_callTy call_list_of (by rfl) z.list (by decide +kernel) (pa_cons (pe_fld (pv 0) rfl) pa_nil))), _, rfl, a, C, dx, _, _, rfl, h1, T.cl, T.nT, wf_ties n l, l, xs, rfl, .inr (Evl.st_of h2), fun t nt => q t _ xs nt (Evl.Ex.new nt) upd_same (h3.ex (Evl.Ex.new nt))⟩
theorem sc_Web_len : FnScope ["self"] ["self"] (defScope s_Web_len) := ⟨rfl, rfl, rfl, by decide +kernel, rfl, by decide +kernel, by decide +kernel⟩
def spWLen (C : Addr) : Sp := fun vs H Q _ => ∃ (a : Addr) (n : Nat) (ts : List Arc), vs = [.ref a] ∧ WebAt C H a n ts ∧ Q (.int ts.length) H
theorem ok_wlen {f : Addr} {fd : FuncData} (F : Fun K "__len__" "Web.__len__" s_Web_len f fd) (z : Z mg) (T : WC K mg C) : FnOk P w K mg base CX0 1 f fd ["self"] (spWLen C) := by
  refine F.ok sc_Web_len (fun vs H Q E h => ?_) (fun cdv A outer s H vs Q E hr h => ?_)
  · obtain ⟨a, n, ts, rfl, _⟩ := h
    rfl
  · obtain ⟨a, n, ts, rfl, ⟨dx, l, xs, h1, h2, h3⟩, q⟩ := h
    have e : xs.length = ts.length := by rw [h3.1, List.length_map]
    rw [← e] at q
    exact ⟨_, pss_one (ps_ret (pe_callB call_len_seq (by rfl) z.len PySem.boot_len (pa_cons (pe_fld (pv 0) rfl) pa_nil))), _, rfl, a, C, dx, _, _, rfl, h1, T.cl, T.nT, wf_ties n l, l, _, rfl, .inr (Evl.st_of h2), q⟩
theorem sc_Web_iter : FnScope ["self"] ["self"] (defScope s_Web_iter) := ⟨rfl, rfl, rfl, by decide +kernel, rfl, by decide +kernel, by decide +kernel⟩
theorem ok_witer {f : Addr} {fd : FuncData} (F : Fun K "__iter__" "Web.__iter__" s_Web_iter f fd) (z : Z mg) (T : WC K mg C) : FnY P w K mg base 1 f fd ["self"] (spIt K C "_ties") :=
  Fun.okY F sc_Web_iter fun cdv A outer s H vs Q hr h => by
    obtain ⟨a, dx, fs, l, zs, rfl, ha, hf, hz, q⟩ := h
    exact ⟨_, pss_one (ps_ret (pe_callB (call_iterT (K := K) (n := s.heap.objs.size)) (by rfl) z.iter (by decide +kernel) (pa_cons (pe_fld (pv 0) rfl) pa_nil))), _, rfl, a, C, dx, _, _, rfl, ha, T.cl, T.nT, hf, l, zs, rfl, hz, q⟩
structure WI (P : Program) (w : World) (K : PySem.W.Frag) (mg : Str → Option Value) (base : Heap) (C f : Addr) (fd : FuncData) : Prop where
  at_ : PySem.W.findIn K (.ref C) "__iter__" = some (some (.ref f))
  fn : PySem.W.isFn K (.ref f) = true
  ok : FnY P w K mg base 1 f fd ["self"] (spIt K C "_ties")
  b : Binds K fd ["self"] []
structure WLn (P : Program) (w : World) (K : PySem.W.Frag) (mg : Str → Option Value) (base : Heap) (C f : Addr) (fd : FuncData) : Prop where
  at_ : PySem.W.findIn K (.ref C) "__len__" = some (some (.ref f))
  fn : PySem.W.isFn K (.ref f) = true
  ok : FnOk P w K mg base CX0 1 f fd ["self"] (spWLen C)
  b : Binds K fd ["self"] []
structure WM (P : Program) (w : World) (K : PySem.W.Frag) (mg : Str → Option Value) (base : Heap) (C f : Addr) (fd : FuncData) : Prop where
  make : Mk K C f
  ok : FnOk P w K mg base CX0 4 f fd ["self", "places", "ties"] (spWInit C)
  b : Binds K fd ["self", "places", "ties"] []
theorem sc_Web_eq : FnScope ["self", "other"] ["self", "other"] (defScope s_Web_eq) := ⟨rfl, rfl, rfl, by decide +kernel, rfl, by decide +kernel, by decide +kernel⟩
def spWEq (C : Addr) : Sp := fun vs H Q _ => ∃ (a b : Addr) (n m : Nat) (ts us : List Arc), vs = [.ref a, .ref b] ∧ WebAt C H a n ts ∧ WebAt C H b m us ∧ Q (.bl (decide (n = m) && decide (ts = us))) H
theorem eqvAll_arcs : ∀ ts us : List Arc, PyData.eqvAll (ts.map arcD) (us.map arcD) = decide (ts = us)
  | [], [] => rfl
  | [], _ :: _ => rfl
  | _ :: _, [] => rfl
  | t :: ts, u :: us => by
    have e : PyData.eqvAll ((t :: ts).map arcD) ((u :: us).map arcD) = (PyData.eqv (arcD t) (arcD u) && PyData.eqvAll (ts.map arcD) (us.map arcD)) := rfl
    have e2 : PyData.eqv (arcD t) (arcD u) = decide (t = u) := by
      unfold arcD
      rw [eqvW_tupD, Bool.eq_iff_iff, decide_eq_true_eq, decide_eq_true_eq]
      exact ⟨arcL_inj, fun h => by rw [h]⟩
    rw [e, eqvAll_arcs ts us, e2, Bool.eq_iff_iff, Bool.and_eq_true, decide_eq_true_eq, decide_eq_true_eq, decide_eq_true_eq, List.cons.injEq]
theorem shaped_arcs (ts : List Arc) : SeqAt.shaped (.tuple (ts.map arcD)) = true := by
  unfold SeqAt.shaped
  rw [Bool.and_eq_true, decide_eq_true_eq]
  refine ⟨layW_lots fun d hd => ?_, ?_⟩
  · obtain ⟨m, _, rfl⟩ := List.mem_map.mp hd
    exact ⟨_, rfl⟩
  · have := depth_all (n := 1) (ds := ts.map arcD) fun d hd => by
      obtain ⟨m, _, rfl⟩ := List.mem_map.mp hd
      exact depth_tupD _
    simp only [PyData.depth]
    omega
theorem ok_weq {f : Addr} {fd : FuncData} (F : Fun K "__eq__" "Web.__eq__" s_Web_eq f fd) (z : Z mg) (T : WC K mg C) : FnOk P w K mg base CX0 1 f fd ["self", "other"] (spWEq C) := by
  refine F.ok sc_Web_eq (fun vs H Q E h => ?_) (fun cdv A outer sh H vs Q E hr h => ?_)
  · obtain ⟨a, b, n, m, ts, us, rfl, _⟩ := h
    rfl
  · obtain ⟨a, b, n, m, ts, us, rfl, ⟨dx, l, xs, h1, h2, h3⟩, ⟨dx', l', xs', h1', h2', h3'⟩, q⟩ := h
    refine ⟨_, (pss_one (ps_ret (pe_and (pe_callB (C8.call_isC T.ins) (by rfl) z.isinstance (by decide +kernel) (pa_cons (pv 1) (pa_cons (pe_glob (by rfl) T.mg (show RelV (.ref C) (.ref C) from rfl)) pa_nil))) (pe_and (pe_cmpR op_eq (pe_fld (pv 0) rfl) (pe_fld (pv 1) rfl) (nomark _)) (pe_one (pe_cmpR (op_eqD hr.units) (pe_fld (pv 0) rfl) (pe_fld (pv 1) rfl) (nomark _))))))), ?_⟩
    refine ⟨_, rfl, b, dx', _, rfl, h1', _, rfl, ?_⟩
    refine ⟨_, rfl, a, C, dx, _, _, rfl, h1, T.cl, T.nP, wf_places n l, _, rfl, b, C, dx', _, _, rfl, h1', T.cl, T.nP, wf_places m l', rfl, ?_⟩
    rw [decI]
    cases hc : decide (n = m) with
    | false =>
      rw [hc] at q
      exact ⟨_, rfl, q⟩
    | true =>
      rw [hc] at q
      refine ⟨_, rfl, _, rfl, a, C, dx, _, _, rfl, h1, T.cl, T.nT, wf_ties n l, _, rfl, b, C, dx', _, _, rfl, h1', T.cl, T.nT, wf_ties m l', .tuple (ts.map arcD), .tuple (us.map arcD), (At.mkT h2 h3).dp, (At.mkT h2' h3').dp, shaped_arcs _, shaped_arcs _, ?_⟩
      rw [show PyData.eqv (.tuple (ts.map arcD)) (.tuple (us.map arcD)) = decide (ts = us) from eqvAll_arcs _ _]
      exact q
structure WEq (P : Program) (w : World) (K : PySem.W.Frag) (mg : Str → Option Value) (base : Heap) (C f : Addr) (fd : FuncData) : Prop where
  at_ : PySem.W.findIn K (.ref C) "__eq__" = some (some (.ref f))
  fn : PySem.W.isFn K (.ref f) = true
  ok : FnOk P w K mg base CX0 1 f fd ["self", "other"] (spWEq C)
  b : Binds K fd ["self", "other"] []
end
end TW
set_option Elab.async false
set_option linter.all false
set_option maxRecDepth 100000
set_option maxHeartbeats 1000000
namespace TW
open PySem PySem.Spec PyProof.Rows L2
theorem ats_permW {α : Type} {f : α → PyData} {H : Hp} {xs ys : List V} {l : List α} (p : ys.Perm xs) (h : Ats H xs (l.map f)) : ∃ l' : List α, l'.Perm l ∧ Ats H ys (l'.map f) := by
  have hl : xs.length = l.length := by rw [h.1, List.length_map]
  have e1 : (xs.zip l).map (·.1) = xs := List.map_fst_zip (by omega)
  have e2 : (xs.zip l).map (·.2) = l := List.map_snd_zip (by omega)
  rw [← e1] at p
  obtain ⟨m, pm, rfl⟩ := perm_back (f := fun q : V × α => q.1) p
  refine ⟨m.map (·.2), by have := pm.map (·.2); rw [e2] at this; exact this, ?_⟩
  rw [List.map_map]
  refine Ats.map_ fun q hq => ?_
  obtain ⟨i, hi⟩ := List.mem_iff_getElem?.mp (pm.mem_iff.mp hq)
  rw [List.getElem?_zip_eq_some] at hi
  obtain ⟨y, hy, ay⟩ := ats_get h hi.1
  rw [hi.2] at hy
  cases hy
  exact ay
theorem bl_ne (a b : Bool) : (!decide (V.bl a = V.bl b)) = (a != b) := by
  cases a <;> cases b <;> decide
theorem cutA_take (ts : List Arc) (f : Nat → Bool) (i : Nat) : (((ts.take i).filter fun t => f t.1 != f t.2.1)).length ≤ ts.length := Nat.le_trans (List.length_filter_le _ _) (List.length_take_le' _ _)
theorem intW (l : List Arc) : (l.map fun t => V.int (t.2.2 : Int)) = ((l.map fun t => t.2.2).map fun k : Nat => (k : Int)).map V.int := by
  rw [List.map_map, List.map_map]
  rfl
section
variable {P : Program} {w : World} {K : PySem.W.Frag} {mg : Str → Option Value} {base : Heap} {C N : Addr}
/-! check_web, check_side -/
theorem sc_check_web : FnScope ["web"] ["web"] (defScope s_check_web) := ⟨rfl, rfl, rfl, by decide +kernel, rfl, by decide +kernel, by decide +kernel⟩
def spCheckWeb (C : Addr) : Sp := fun vs H Q _ => ∃ (a : Addr) (n : Nat) (ts : List Arc), vs = [.ref a] ∧ WebAt C H a n ts ∧ Q .non H
theorem ok_check_web (D : Dfn K mg "check_web" s_check_web ["web"]) (z : Z mg) (T : WC K mg C) : Ok P w K mg base 1 "check_web" ["web"] (spCheckWeb C) := D.ok fun f fd F => by
  refine F.ok sc_check_web (fun vs H Q E h => ?_) (fun cdv A outer s H vs Q E hr h => ?_)
  · obtain ⟨a, n, ts, rfl, _⟩ := h
    rfl
  · obtain ⟨a, n, ts, rfl, ⟨dx, l, xs, h1, h2, h3⟩, q⟩ := h
    refine ⟨_, (pss_one (ps_if (pt_not (pt_val (pe_callB (C8.call_isC T.ins) (by rfl) z.isinstance (by decide +kernel) (pa_cons (pv 0) (pa_cons (pe_glob (by rfl) T.mg (show RelV (.ref C) (.ref C) from rfl)) pa_nil))))) (pss_one ps_never) pss_nil)), ?_⟩
    exact ⟨_, rfl, a, dx, _, rfl, h1, _, rfl, q⟩
theorem sc_is_side : FnScope ["value", "places"] ["value", "places"] (defScope s_is_side) := ⟨rfl, rfl, rfl, by decide +kernel, rfl, by decide +kernel, by decide +kernel⟩
theorem ok_is_side (D : Dfn K mg "is_side" s_is_side ["value", "places"]) (O_is_lot : Ok P w K mg base 3 "is_lot" ["value", "things"] (spIsLot K)) : Ok P w K mg base 4 "is_side" ["value", "places"] (spIsLot K) := D.ok fun f fd F => by
  refine F.ok sc_is_side (fun vs H Q E h => ?_) (fun cdv A outer s H vs Q E hr h => ?_)
  · obtain ⟨a, ns, t, rfl, _⟩ := h
    rfl
  · obtain ⟨a, ns, t, rfl, hT, hl, q⟩ := h
    exact ⟨_, (pss_one (ps_ret (pe_o O_is_lot hr (pa_cons (pv 0) (pa_cons (pv 1) pa_nil))))), _, rfl, _, rfl, a, ns, t, rfl, hT, hl, q⟩
theorem sc_check_side : FnScope ["side", "places"] ["side", "places"] (defScope s_check_side) := ⟨rfl, rfl, rfl, by decide +kernel, rfl, by decide +kernel, by decide +kernel⟩
theorem ok_check_side (D : Dfn K mg "check_side" s_check_side ["side", "places"]) (O_is_side : Ok P w K mg base 4 "is_side" ["value", "places"] (spIsLot K)) : Ok P w K mg base 5 "check_side" ["side", "places"] (spCheckLot K) := D.ok fun f fd F => by
  refine F.ok sc_check_side (fun vs H Q E h => ?_) (fun cdv A outer s H vs Q E hr h => ?_)
  · obtain ⟨a, ns, t, rfl, _⟩ := h
    rfl
  · obtain ⟨a, ns, t, rfl, hT, hl, hlot, q⟩ := h
    refine ⟨_, (pss_one (ps_if (pt_not (pt_val (pe_o O_is_side hr (pa_cons (pv 0) (pa_cons (pv 1) pa_nil))))) (pss_one ps_never) pss_nil)), ?_⟩
    refine ⟨_, rfl, _, rfl, a, ns, t, rfl, hT, hl, fun H1 e1 => ?_⟩
    rw [hlot]
    exact ⟨_, rfl, q H1 e1⟩
/-! _cut, cut_of -/
abbrev NCU : List Str := ["web", "places", "low", "high", "weight"]
theorem sc__cut : FnScope NCU ["web", "places"] (defScope s__cut) := ⟨rfl, rfl, rfl, by decide +kernel, rfl, by decide +kernel, by decide +kernel⟩
def spCut (K : PySem.W.Frag) (C : Addr) : Sp := fun vs H Q _ => ∃ (a pa : Addr) (n : Nat) (ts : List Arc) (ns : List Int), vs = [.ref a, .ref pa] ∧ WebAt C H a n ts ∧ (SqL K H pa (ns.map V.int) ∨ SqT K H pa (ns.map V.int)) ∧ ts.length ≤ 10000 ∧ ∀ H', Ex H H' → Q (.int (cutA ts fun k => decide ((k : Int) ∈ ns))) H'
theorem ok_cut {gi : Addr} {gid : FuncData} (D : Dfn K mg "_cut" s__cut ["web", "places"]) (It : WI P w K mg base C gi gid) (zs : mg "sum" = none) : Ok P w K mg base 3 "_cut" ["web", "places"] (spCut K C) := D.ok fun f fd F => by
  refine F.ok sc__cut (fun vs H Q E h => ?_) (fun cdv A outer s H vs Q E hr h => ?_)
  · obtain ⟨a, pa, n, ts, ns, rfl, _⟩ := h
    rfl
  · obtain ⟨a, pa, n, ts, ns, rfl, ⟨dx, l, xs, h1, h2, h3⟩, hp, lts, q⟩ := h
    refine ⟨_, (pss_one (ps_ret (pe_callB (cr_sum rfl) (by rfl) zs (by decide +kernel) (pa_cons (pe_lc (own := [("low", 2), ("high", 3), ("weight", 4)]) (g := gTup K 3 (gCons (gName 2) (gCons (gName 3) (gCons (gName 4) gNil)))) rfl sc__cut.nd (pi_own (f := "_ties") (pv 0) It.at_ It.fn It.ok It.b (hr.mono (by decide))) (blkOk_by (N := NCU) (own := [("low", 2), ("high", 3), ("weight", 4)]) (sc := defScope s__cut) (by decide +kernel)) (fun _ _ _ _ _ => pg_tup rfl (pgs_cons (pg_name (i := 2) sc__cut.nd rfl (Or.inl rfl)) (pgs_cons (pg_name (i := 3) sc__cut.nd rfl (Or.inl rfl)) (pgs_cons (pg_name (i := 4) sc__cut.nd rfl (Or.inl rfl)) pgs_nil))))
      (fun _ _ _ _ _ => pts_one (pt_cmpR op_ne (pe_cmpR (op_inK (K := K)) (pv 2) (pv 1) (by rfl)) (pe_cmpR (op_inK (K := K)) (pv 3) (pv 1) (by rfl)) (nomark _))) (fun _ _ _ _ _ => (pv 4))) pa_nil)))), ?_⟩
    obtain ⟨fc, hfc⟩ : ∃ fc : Nat → Bool, fc = fun k : Nat => decide ((k : Int) ∈ ns) := ⟨_, rfl⟩
    rw [← hfc] at q
    refine ⟨_, rfl, a, dx, _, l, _, rfl, h1, wf_ties n l, Evl.st_of h2, fun Dl hD => ?_⟩
    refine lc_tup (K := K) (a := l) (xs := xs) (fun i H' => Ex H H' ∧ H' Dl = some (.lst (((ts.take i).filter fun t => fc t.1 != fc t.2.1).map fun t => V.int (t.2.2 : Int)))) ⟨Evl.Ex.new hD, by rw [upd_same]; rfl⟩ (fun i H' _ p => Evl.ex_t p.1 (Evl.st_of h2)) ?_ ?_
    · rintro i x H1 hi ⟨e1, hd⟩
      obtain ⟨t, ht, ax⟩ := ats_get h3 hi
      obtain ⟨b, rfl, hb⟩ := (ax.ex e1).arc
      have hp1 : SqL K H1 pa (ns.map V.int) ∨ SqT K H1 pa (ns.map V.int) := hp.imp (fun h => Evl.ex_l e1 h) (fun h => Evl.ex_t e1 h)
      refine ⟨b, _, rfl, Evl.st_of hb, rfl, _, _, rfl, _, _, rfl, _, _, rfl, rfl, rfl, ?_⟩
      refine ⟨_, rfl, _, rfl, pa, _, rfl, hp1, rfl, flat_ints _, _, rfl, _, rfl, pa, _, rfl, hp1, rfl, flat_ints _, rfl, _, rfl, ?_⟩
      rw [if_neg (by decide), if_neg (by decide), inV_int, inV_int]
      have ec : (!decide (V.bl (decide ((t.1 : Int) ∈ ns)) = V.bl (decide ((t.2.1 : Int) ∈ ns)))) = (fc t.1 != fc t.2.1) := by
        rw [hfc]
        exact bl_ne _ _
      rw [ec]
      have lk := cutA_take ts fc i
      cases hq : fc t.1 != fc t.2.1 with
      | true =>
        refine ⟨_, rfl, _, hd, szl (by rw [List.length_map]; omega), Evl.Ex.mut e1 hD, ?_⟩
        rw [upd_same, filt_yes (f := fun t : Arc => fc t.1 != fc t.2.1) ht hq, List.map_append]
        rfl
      | false =>
        refine ⟨e1, ?_⟩
        rw [filt_no (f := fun t : Arc => fc t.1 != fc t.2.1) ht hq]
        exact hd
    · rintro H1 ⟨e1, hd⟩
      have lx : xs.length = ts.length := by rw [h3.1, List.length_map]
      rw [lx, List.take_length, intW] at hd
      refine ⟨Dl, _, rfl, Evl.sq_of hd, ?_⟩
      rw [sum_cast]
      exact q H1 e1
theorem sc_cut_of : FnScope ["web", "side"] ["web", "side"] (defScope s_cut_of) := ⟨rfl, rfl, rfl, by decide +kernel, rfl, by decide +kernel, by decide +kernel⟩
def spCutOf (K : PySem.W.Frag) (C : Addr) : Sp := fun vs H Q _ => ∃ (a pa : Addr) (n : Nat) (ts : List Arc) (ns : List Int), vs = [.ref a, .ref pa] ∧ WebAt C H a n ts ∧ SqT K H pa (ns.map V.int) ∧ ns.length ≤ 1000 ∧ isLot ns (some (n : Int)) = true ∧ ts.length ≤ 10000 ∧ ∀ H', Ex H H' → Q (.int (cutA ts fun k => decide ((k : Int) ∈ ns))) H'
theorem fn_cut_of {f gp gg : Addr} {fd gpd : FuncData} (F : Fun K "cut_of" "cut_of" s_cut_of f fd) (T : WC K mg C) (PP : TG P w K mg base C gp gg gpd "places" (spWPlaces C)) (O_web : Ok P w K mg base 1 "check_web" ["web"] (spCheckWeb C)) (O_side : Ok P w K mg base 5 "check_side" ["side", "places"] (spCheckLot K)) (O_cut : Ok P w K mg base 3 "_cut" ["web", "places"] (spCut K C)) : FnOk P w K mg base CX0 6 f fd ["web", "side"] (spCutOf K C) := by
  refine F.ok sc_cut_of (fun vs H Q E h => ?_) (fun cdv A outer s H vs Q E hr h => ?_)
  · obtain ⟨a, pa, n, ts, ns, rfl, _⟩ := h
    rfl
  · obtain ⟨a, pa, n, ts, ns, rfl, web, hp, lns, hlot, lts, q⟩ := h
    obtain ⟨dx, l, xs, h1, h2, h3⟩ := id web
    refine ⟨_, (pss_cons (ps_expr (pe_o O_web (hr.mono (by decide)) (pa_cons (pv 0) pa_nil)))
      (pss_cons (ps_expr (pe_o O_side hr (pa_cons (pv 1) (pa_cons (pe_prop (pv 0) T.cl PP.at_ PP.ok (hr.mono (by decide)) PP.b .nil pass0 rfl) pa_nil))))
      (pss_one (ps_ret (pe_o O_cut (hr.mono (by decide)) (pa_cons (pv 0) (pa_cons (pv 1) pa_nil))))))), ?_⟩
    refine ⟨_, rfl, a, n, ts, rfl, web, ?_⟩
    refine ⟨_, rfl, _, rfl, a, dx, _, rfl, h1, a, n, ts, rfl, web, pa, ns, some (n : Int), rfl, hp, lns, hlot, fun H1 e1 => ?_⟩
    exact ⟨_, rfl, _, rfl, a, pa, n, ts, ns, rfl, web.ex e1, .inr (Evl.ex_t e1 hp), lts, fun H2 e2 => q H2 (e1.trans e2)⟩
def spPlacesDrawn : Sp := fun vs H Q _ => ∃ (G : Hp) (l : List (Addr × HO)) (p : Addr) (o : HO) (k : Nat), vs = [.ref p] ∧ Has G H ((p, o) :: l) ∧ WellO k o ∧ k < 10 ^ 8 ∧
  ∀ (H' : Hp) (o' : HO) (n : Nat), Has G H' ((p, o') :: l) → WellO (k + 1) o' → 0 < n → n ≤ 7 → Q (.int n) H'
def spCutDue (K : PySem.W.Frag) : Sp := fun vs H Q _ => ∃ (a : Addr) (m : Int) (xs : List V) (ts : List Arc), vs = [.ref a, .int m] ∧ SqL K H a xs ∧ Ats H xs (ts.map arcD) ∧ ts.length ≤ 10000 ∧ ∀ H', Ex H H' → Q (.int (cutA ts (bitB m))) H'
theorem bit_ne (m : Int) (a b : Nat) : (!decide (V.int (m / 2 ^ a % 2 ^ 1) = V.int (m / 2 ^ b % 2 ^ 1))) = (bitB m a != bitB m b) := by
  rw [Int.pow_one]
  unfold bitB
  have h1 := Int.emod_two_eq (m / 2 ^ a)
  have h2 := Int.emod_two_eq (m / 2 ^ b)
  rcases h1 with h1 | h1 <;> rcases h2 with h2 | h2 <;> rw [h1, h2] <;> decide
/-! _law_net_is -/
theorem rep_arcs {H : Hp} {x y : V} {ts : List Arc} (hl : ts.length ≤ 10000) (hx : At H x (.list (ts.map arcD))) (hy : At H y (.list (ts.map arcD))) : Rep 2 H x y := by
  refine rep_list hx hy (by rw [List.length_map]; omega) fun d hd u v hu hv => ?_
  obtain ⟨t, _, rfl⟩ := List.mem_map.mp hd
  refine rep_tuple hu hv (by show 3 ≤ 10000; decide) fun d hd u v hu hv => ?_
  obtain ⟨i, _, rfl⟩ := List.mem_map.mp hd
  rw [hu.isI, hv.isI]
  exact Rep.flat rfl
def spNetIs (K : PySem.W.Frag) (C : Addr) : Sp := fun vs H Q _ => ∃ (a t : Addr) (n : Nat) (ts : List Arc) (xs : List V), vs = [.ref a, .int n, .ref t] ∧ WebAt C H a n ts ∧ H t = some (.lst xs) ∧ Ats H xs (ts.map arcD) ∧ ts.length ≤ 10000 ∧ ∀ H', Ex H H' → Q (.bl true) H'
end
end TW
set_option Elab.async false
set_option linter.all false
set_option maxRecDepth 100000
set_option maxHeartbeats 1000000
namespace TW
open PySem PySem.Spec PyProof.Rows L2
def tri : Nat → Nat
  | 0 => 0
  | i + 1 => tri i + i
theorem tri9 : ∀ {n : Nat}, n ≤ 9 → tri n ≤ 36
  | 0, _ => by decide
  | 1, _ => by decide
  | 2, _ => by decide
  | 3, _ => by decide
  | 4, _ => by decide
  | 5, _ => by decide
  | 6, _ => by decide
  | 7, _ => by decide
  | 8, _ => by decide
  | 9, _ => by decide
  | n + 10, h => absurd h (by omega)
def prL (p : Nat × Nat) : List Int := [(p.1 : Int), (p.2 : Int)]
def prD (p : Nat × Nat) : PyData := tupD (prL p)
theorem at_pr {H : Hp} {a : Addr} {p : Nat × Nat} (h : H a = some (.tup [.int p.1, .int p.2])) : At H (.ref a) (prD p) := At.mkT h (.cons (.int _) (.cons (.int _) .nil))
theorem At.pr {H : Hp} {v : V} {p : Nat × Nat} (h : At H v (prD p)) : ∃ a, v = .ref a ∧ H a = some (.tup [.int p.1, .int p.2]) := by
  obtain ⟨a, xs, rfl, h1, h2⟩ := At.isT h
  refine ⟨a, rfl, ?_⟩
  have e : xs = [.int p.1, .int p.2] := by
    match xs, h2 with
    | [x, y], h2 =>
      have e1 := h2.head.isI
      have e2 := h2.rest.head.isI
      rw [e1, e2]
    | [], h2 => exact absurd h2.1 (by simp [prL])
    | [_], h2 => exact absurd h2.1 (by simp [prL])
    | _ :: _ :: _ :: _, h2 => exact absurd h2.1 (by simp [prL])
  rw [h1, e]
theorem ats_ins {H : Hp} {xs : List V} {ts : List Arc} {y : V} {t : Arc} (h : Ats H xs (ts.map arcD)) (a : At H y (arcD t)) (i : Nat) : Ats H (xs.take i ++ [y] ++ xs.drop i) ((ts.take i ++ [t] ++ ts.drop i).map arcD) := by
  rw [List.map_append, List.map_append, List.map_take, List.map_drop]
  have tk : ∀ {xs : List V} {ds : List PyData}, Ats H xs ds → Ats H (xs.take i) (ds.take i) := fun {xs ds} h => ⟨by rw [List.length_take, List.length_take, h.1], fun j x d h1 h2 => by
    rw [List.getElem?_take] at h1 h2
    split at h1
    · rename_i c
      rw [if_pos c] at h2
      exact h.2 j x d h1 h2
    · cases h1⟩
  have dp : ∀ {xs : List V} {ds : List PyData}, Ats H xs ds → Ats H (xs.drop i) (ds.drop i) := fun {xs ds} h => ⟨by rw [List.length_drop, List.length_drop, h.1], fun j x d h1 h2 => by
    rw [List.getElem?_drop] at h1 h2
    exact h.2 _ x d h1 h2⟩
  exact ((tk h).append (.cons a .nil)).append (dp h)
theorem nuMin2_int (a b : Int) : nuMin2 (.int a) (.int b) = some (.int (if b < a then b else a)) := by
  show (some (decide (b < a))).map _ = _
  by_cases h : b < a
  · rw [decide_eq_true h, if_pos h]
    rfl
  · rw [decide_eq_false h, if_neg h]
    rfl
theorem nuMin3_int (a b c : Int) : ∃ m : Int, nuMin3 (.int a) (.int b) (.int c) = some (.int m) ∧ m ≤ a ∧ m ≤ b ∧ m ≤ c ∧ (m = a ∨ m = b ∨ m = c) := by
  unfold nuMin3
  rw [nuMin2_int]
  refine ⟨_, nuMin2_int _ _, ?_⟩
  split <;> split <;> omega
/-- (low, high, heavy) or (high, low, heavy), as the well says -/
def tArcE : TE := fun σ H Q => ∃ (G : Hp) (l : List (Addr × HO)) (p : Addr) (o : HO) (k lo hi w : Nat), σ[0]? = some (some (.ref p)) ∧ σ[5]? = some (some (.int lo)) ∧ σ[4]? = some (some (.int hi)) ∧ σ[8]? = some (some (.int w)) ∧ Has G H ((p, o) :: l) ∧ WellO k o ∧ k < 10 ^ 8 ∧
  ∀ (H' : Hp) (o' : HO) (u : Addr) (t : Arc), Has G H' ((u, .tup [.int t.1, .int t.2.1, .int t.2.2]) :: (p, o') :: l) → WellO (k + 1) o' → (t = (lo, hi, w) ∨ t = (hi, lo, w)) → Q (.ref u) H'
section
variable {P : Program} {w : World} {K : PySem.W.Frag} {mg : Str → Option Value} {base : Heap} {C N : Addr}
/-! _law_some_ties -/
abbrev NST2 : List Str := ["well", "many", "pairs", "share", "high", "low", "out", "scale", "heavy", "k", "twin"]
def spSomeTies : Sp := fun vs H Q _ => ∃ (G : Hp) (l : List (Addr × HO)) (p : Addr) (o : HO) (k n : Nat), vs = [.ref p, .int n] ∧ Has G H ((p, o) :: l) ∧ WellO k o ∧ k < 10 ^ 6 ∧ n ≤ 9 ∧
  ∀ (G' H' : Hp) (o' : HO) (t : Addr) (xs : List V) (ts : List Arc), Ex G G' → Has G' H' ((t, .lst xs) :: (p, o') :: l) → WellO (k + 3000) o' → Ats G' xs (ts.map arcD) → (∀ t ∈ ts, arcOk n t) → ts.length ≤ 40 → (∀ t ∈ ts, t.2.2 ≤ 10 ^ 11) → Q (.ref t) H'
end
end TW
set_option Elab.async false
set_option linter.all false
set_option maxRecDepth 100000
set_option maxHeartbeats 1000000
namespace TW
open PySem PySem.Spec PyProof.Rows L2
theorem prL_inj {p q : Nat × Nat} (h : prL p = prL q) : p = q := by
  unfold prL at h
  simp only [List.cons.injEq, Int.natCast_inj, and_true] at h
  exact Prod.ext h.1 h.2
theorem lexLt_pr {p q : Nat × Nat} (h : HT.lexLt (prL p) (prL q) = true) : p.1 < q.1 ∨ (p.1 = q.1 ∧ p.2 < q.2) := by
  rw [lex_list, decide_eq_true_eq] at h
  unfold prL at h
  rw [List.cons_lt_cons_iff] at h
  rcases h with h | ⟨h1, h2⟩
  · exact .inl (by omega)
  · rw [List.cons_lt_cons_iff] at h2
    rcases h2 with h2 | ⟨_, h2⟩
    · exact .inr ⟨by omega, by omega⟩
    · exact absurd h2 (by simp)
/-- both places, as the law looks for them -/
theorem both_ends {a b lo hi : Nat} (hlt : lo < hi) (hab : a ≠ b) : ((lo = a ∨ lo = b) ∧ (hi = a ∨ hi = b)) ↔ (min a b, max a b) = (lo, hi) := by
  rw [Prod.mk.injEq]
  omega
theorem cut2 (x y z : V) : cutV [x, y, z] none (some 2) = [x, y] := by
  show cutV [x, y, z] none (some ((2 : Nat) : Int)) = _
  unfold cutV
  rw [HT.sIx_nat, HT.sIx_none]
  rfl
theorem cut2w (x y z : V) : ¬ (HT.sIx [x, y, z].length 0 none = 0 ∧ HT.sIx [x, y, z].length [x, y, z].length (some 2) = [x, y, z].length) := fun h => by
  have h2 := h.2
  rw [show (some 2 : Option Int) = some ((2 : Nat) : Int) from rfl, HT.sIx_nat] at h2
  have h3 : min 2 3 = 3 := h2
  exact absurd h3 (by decide)
/-- low in arc[:2] and high in arc[:2] -/
def tEnds : TT := fun σ H Q => ∃ (b : Addr) (t : Arc) (lo hi : Nat), σ[6]? = some (some (.ref b)) ∧ σ[3]? = some (some (.int lo)) ∧ σ[4]? = some (some (.int hi)) ∧ H b = some (.tup [.int t.1, .int t.2.1, .int t.2.2]) ∧ t.1 ≠ t.2.1 ∧ lo < hi ∧ ∀ H', Ex H H' → Q (decide (endsA t = (lo, hi))) H'
section
variable {P : Program} {w : World} {K : PySem.W.Frag} {mg : Str → Option Value} {base : Heap} {C N : Addr}
/-! _law_summed -/
abbrev NSU : List Str := ["given", "ends", "out", "low", "high", "heavy", "arc"]
def spSummed : Sp := fun vs H Q _ => ∃ (G : Hp) (l : List (Addr × HO)) (a : Addr) (xs : List V) (n : Nat) (ts : List Arc), vs = [.ref a] ∧ Has G H l ∧ Stays G l a (.lst xs) ∧ Ats G xs (ts.map arcD) ∧ (∀ t ∈ ts, arcOk n t) ∧ ts.length ≤ 64 ∧ n ≤ 100 ∧
  ∀ (G' H' : Hp) (u : Addr) (ys : List V), Ex G G' → Has G' H' ((u, .lst ys) :: l) → Ats G' ys ((sumA n ts).map arcD) → Q (.ref u) H'
end
end TW
set_option Elab.async false
set_option linter.all false
set_option maxRecDepth 100000
set_option maxHeartbeats 1000000
namespace TW
open PySem PySem.Spec PyProof.Rows L2
theorem wOf_le {ts : List Arc} {B : Nat} (h : ∀ t ∈ ts, t.2.2 ≤ B) (p : Nat × Nat) : wOf ts p ≤ ts.length * B := by
  have key : ∀ l : List Arc, (∀ t ∈ l, t.2.2 ≤ B) → ((l.filter fun t => decide (endsA t = p)).map fun t => t.2.2).sum ≤ l.length * B := by
    intro l
    induction l with
    | nil => intro _; simp
    | cons t l ih =>
      intro h
      have ih := ih fun u hu => h u (List.mem_cons_of_mem _ hu)
      have ht := h t List.mem_cons_self
      rw [List.length_cons, Nat.succ_mul]
      by_cases c : endsA t = p
      · rw [List.filter_cons_of_pos (p := fun t => decide (endsA t = p)) (decide_eq_true c), List.map_cons, List.sum_cons]
        omega
      · rw [List.filter_cons_of_neg (p := fun t => decide (endsA t = p)) (by rw [decide_eq_false c]; decide)]
        omega
  exact key ts h
theorem pairs36 : ∀ {n : Nat}, n ≤ 9 → (pairsN n).length ≤ 36
  | 0, _ => by decide
  | 1, _ => by decide
  | 2, _ => by decide
  | 3, _ => by decide
  | 4, _ => by decide
  | 5, _ => by decide
  | 6, _ => by decide
  | 7, _ => by decide
  | 8, _ => by decide
  | 9, _ => by decide
  | n + 10, h => absurd h (by omega)
theorem sumA_36 {n : Nat} (h : n ≤ 9) (ts : List Arc) : (sumA n ts).length ≤ 36 := by
  unfold sumA
  rw [List.length_map]
  exact Nat.le_trans (List.length_filter_le _ _) (pairs36 h)
theorem sumA_le {n : Nat} {ts : List Arc} {B : Nat} (h : ∀ t ∈ ts, t.2.2 ≤ B) : ∀ t ∈ sumA n ts, t.2.2 ≤ ts.length * B := fun t ht => by
  rw [(mem_sumA.mp ht).2.2.1]
  exact wOf_le h _
theorem sumA_of {n : Nat} {ts us : List Arc} (h : ∀ p, p.1 < p.2 → p.2 < n → wOf ts p = wOf us p) : sumA n ts = sumA n us := by
  have e : ∀ p ∈ pairsN n, wOf ts p = wOf us p := fun p hp => h p (mem_pairsN.mp hp).1 (mem_pairsN.mp hp).2
  show ((pairsN n).filter fun p => decide (0 < wOf ts p)).map (fun p => (p.1, p.2, wOf ts p)) = ((pairsN n).filter fun p => decide (0 < wOf us p)).map fun p => (p.1, p.2, wOf us p)
  rw [show ((pairsN n).filter fun p => decide (0 < wOf ts p)) = (pairsN n).filter fun p => decide (0 < wOf us p) from filt_congr fun p hp => by rw [e p hp]]
  exact List.map_congr_left fun p hp => by rw [e p (List.mem_filter.mp hp).1]
theorem wOf_cons (t : Arc) (ts : List Arc) (p : Nat × Nat) : wOf (t :: ts) p = (if endsA t = p then t.2.2 else 0) + wOf ts p := by
  unfold wOf
  by_cases h : endsA t = p
  · rw [if_pos h, List.filter_cons_of_pos (p := fun t => decide (endsA t = p)) (decide_eq_true h), List.map_cons, List.sum_cons]
  · rw [if_neg h, List.filter_cons_of_neg (p := fun t => decide (endsA t = p)) (by rw [decide_eq_false h]; decide), Nat.zero_add]
theorem endsA_swap (a b w v : Nat) : endsA (a, b, w) = endsA (b, a, v) := by
  unfold endsA
  show (min a b, max a b) = (min b a, max b a)
  rw [Nat.min_comm, Nat.max_comm]
theorem ats_eraseW {H : Hp} : ∀ {xs : List V} {ds : List PyData}, Ats H xs ds → ∀ i, Ats H (xs.eraseIdx i) (ds.eraseIdx i)
  | [], [], _, _ => .nil
  | x :: xs, d :: ds, h, 0 => h.rest
  | x :: xs, d :: ds, h, i + 1 => .cons h.head (ats_eraseW h.rest i)
  | [], _ :: _, h, _ => absurd h.1 (by simp)
  | _ :: _, [], h, _ => absurd h.1 (by simp)
theorem map_eraseW {α β : Type} (f : α → β) : ∀ (l : List α) (i : Nat), (l.map f).eraseIdx i = (l.eraseIdx i).map f
  | [], _ => rfl
  | _ :: _, 0 => rfl
  | x :: l, i + 1 => congrArg (f x :: ·) (map_eraseW f l i)
theorem shaped_arcsL (ts : List Arc) : SeqAt.shaped (.list (ts.map arcD)) = true := by
  have h := shaped_arcs ts
  unfold SeqAt.shaped at h ⊢
  have e : (PyData.list (ts.map arcD)).depth = (PyData.tuple (ts.map arcD)).depth := by simp [PyData.depth]
  rw [e]
  exact h
theorem eqv_nilW (ds : List PyData) : PyData.eqv (.list ds) (.list []) = decide (ds = []) := by
  cases ds with
  | nil => rfl
  | cons n ns => simp [PyData.eqv, PyData.eqvAll]
/-- (high, low, heavy) or (low, high, heavy), as the well says; slots 3, 4, 5 -/
def tArcF : TE := fun σ H Q => ∃ (G : Hp) (l : List (Addr × HO)) (p : Addr) (o : HO) (k lo hi w : Nat), σ[0]? = some (some (.ref p)) ∧ σ[3]? = some (some (.int lo)) ∧ σ[4]? = some (some (.int hi)) ∧ σ[5]? = some (some (.int w)) ∧ Has G H ((p, o) :: l) ∧ WellO k o ∧ k < 10 ^ 8 ∧
  ∀ (H' : Hp) (o' : HO) (u : Addr) (t : Arc), Has G H' ((u, .tup [.int t.1, .int t.2.1, .int t.2.2]) :: (p, o') :: l) → WellO (k + 1) o' → (t = (lo, hi, w) ∨ t = (hi, lo, w)) → Q (.ref u) H'
/-- the tie is between both -/
def hitB (one two : Nat) (t : Arc) : Bool := decide (one = t.1 ∨ one = t.2.1) && decide (two = t.1 ∨ two = t.2.1)
theorem hit_ends {one two : Nat} {t : Arc} (h : one ≠ two) (ht : t.1 ≠ t.2.1) : hitB one two t = decide (endsA t = (min one two, max one two)) := by
  unfold hitB endsA
  rw [Bool.eq_iff_iff, Bool.and_eq_true, decide_eq_true_eq, decide_eq_true_eq, decide_eq_true_eq, Prod.mk.injEq]
  omega
/-- one in arc[:2] and two in arc[:2]; the slots -/
def tHit (i j k : Nat) : TT := fun σ H Q => ∃ (b : Addr) (t : Arc) (one two : Nat), σ[k]? = some (some (.ref b)) ∧ σ[i]? = some (some (.int one)) ∧ σ[j]? = some (some (.int two)) ∧ H b = some (.tup [.int t.1, .int t.2.1, .int t.2.2]) ∧ ∀ H', Ex H H' → Q (hitB one two t) H'
def tMiss (i j k : Nat) : TT := fun σ H Q => ∃ (b : Addr) (t : Arc) (one two : Nat), σ[k]? = some (some (.ref b)) ∧ σ[i]? = some (some (.int one)) ∧ σ[j]? = some (some (.int two)) ∧ H b = some (.tup [.int t.1, .int t.2.1, .int t.2.2]) ∧ ∀ H', Ex H H' → Q (!hitB one two t) H'
theorem in2 {one a b : Nat} : decide ((one : Int) ∈ [(a : Int), (b : Int)]) = decide (one = a ∨ one = b) := by
  rw [decide_eq_decide]
  simp only [List.mem_cons, List.not_mem_nil, or_false]
  omega
section
variable {P : Program} {w : World} {K : PySem.W.Frag} {mg : Str → Option Value} {base : Heap} {C N : Addr}
/-! _law_retold -/
abbrev NRT : List Str := ["well", "arcs", "out", "low", "high", "heavy", "part_of"]
def spRetold : Sp := fun vs H Q _ => ∃ (G : Hp) (l : List (Addr × HO)) (p ta : Addr) (o : HO) (k n : Nat) (ys : List V) (ts : List Arc), vs = [.ref p, .ref ta] ∧ Has G H ((p, o) :: l) ∧ WellO k o ∧ k < 10 ^ 6 ∧ G ta = some (.lst ys) ∧ Ats G ys (ts.map arcD) ∧ (∀ t ∈ ts, arcOk n t) ∧ (∀ t ∈ ts, t.2.2 ≤ 10 ^ 18) ∧ ts.length ≤ 500 ∧
  ∀ (G' H' : Hp) (o' : HO) (t : Addr) (xs : List V) (rs : List Arc), Ex G G' → Has G' H' ((t, .lst xs) :: (p, o') :: l) → WellO (k + 3000) o' → Ats G' xs (rs.map arcD) → (∀ t ∈ rs, arcOk n t) → rs.length ≤ ts.length + 1 → (∀ p, wOf rs p = wOf ts p) → Q (.ref t) H'
end
end TW
set_option Elab.async false
set_option linter.all false
set_option maxRecDepth 100000
set_option maxHeartbeats 1000000
namespace TW
open PySem PySem.Spec PyProof.Rows L2
theorem hit_wOf {ts : List Arc} (hts : ∀ t ∈ ts, t.1 ≠ t.2.1) {one two : Nat} (h : one ≠ two) : ((ts.filter fun t => hitB one two t).map fun t => t.2.2).sum = wOf ts (min one two, max one two) := by
  unfold wOf
  rw [filt_congr fun t ht => hit_ends h (hts t ht)]
section
variable {P : Program} {w : World} {K : PySem.W.Frag} {mg : Str → Option Value} {base : Heap} {C N : Addr}
/-! _law_heavy_at -/
abbrev NHA : List Str := ["arcs", "one", "two", "arc"]
def spHeavyAt (K : PySem.W.Frag) : Sp := fun vs H Q _ => ∃ (a : Addr) (one two : Nat) (xs : List V) (ts : List Arc), vs = [.ref a, .int one, .int two] ∧ SqL K H a xs ∧ Ats H xs (ts.map arcD) ∧ ts.length ≤ 1000 ∧ ∀ H', Ex H H' → Q (.int (((ts.filter fun t => hitB one two t).map fun t => t.2.2).sum : Nat)) H'
/-! _law_arcs_with -/
abbrev NAW : List Str := ["arcs", "one", "two", "heavy", "rest", "arc"]
def withA (ts : List Arc) (one two w : Nat) : List Arc := (ts.filter fun t => !hitB one two t) ++ [(one, two, w)]
def spArcsWith : Sp := fun vs H Q _ => ∃ (G : Hp) (l : List (Addr × HO)) (a : Addr) (one two w n : Nat) (xs : List V) (ts : List Arc), vs = [.ref a, .int one, .int two, .int w] ∧ Has G H l ∧ G a = some (.lst xs) ∧ Ats G xs (ts.map arcD) ∧ (∀ t ∈ ts, arcOk n t) ∧ ts.length ≤ 60 ∧ n ≤ 100 ∧ one < n ∧ two < n ∧ one ≠ two ∧
  ∀ (G' H' : Hp) (u : Addr) (ys : List V), Ex G G' → Has G' H' ((u, .lst ys) :: l) → Ats G' ys ((sumA n (withA ts one two w)).map arcD) → Q (.ref u) H'
end
end TW
set_option Elab.async false
set_option linter.all false
set_option maxRecDepth 100000
set_option maxHeartbeats 1000000
namespace TW
open PySem PySem.Spec PyProof.Rows L2
theorem op_eqDK {X : Cx} {K : PySem.W.Frag} (hu : X.A.units + 64 < cLine) (h : X.K = K := by rfl) : OpR X (compareOp .Eq) (rEqD K) := by
  subst h
  exact op_eqD hu
theorem eqv_pr (p q : Nat × Nat) : PyData.eqv (prD p) (prD q) = decide (p = q) := by
  unfold prD
  rw [eqvW_tupD, Bool.eq_iff_iff, decide_eq_true_eq, decide_eq_true_eq]
  exact ⟨prL_inj, fun h => by rw [h]⟩
theorem shaped_pr (p : Nat × Nat) : SeqAt.shaped (prD p) = true := by
  unfold SeqAt.shaped prD
  rw [Bool.and_eq_true, decide_eq_true_eq]
  refine ⟨lay_ints (prL p), ?_⟩
  have := depth_tupD (prL p)
  omega
theorem net_ends {n : Nat} {ts : List Arc} (h : Net n ts) {t : Arc} (ht : t ∈ ts) : endsA t = (t.1, t.2.1) := by
  obtain ⟨h1, _⟩ := h.ok t ht
  unfold endsA
  rw [Nat.min_eq_left (by omega), Nat.max_eq_right (by omega)]
def lessA (ts : List Arc) (E : Nat × Nat) : List Arc := ts.filter fun t => !decide ((t.1, t.2.1) = E)
theorem less_with {n : Nat} {ts : List Arc} (h : Net n ts) {p q : Nat} (hpq : p ≠ q) (w : Nat) : lessA ts (min p q, max p q) ++ [(p, q, w)] = withA ts p q w := by
  unfold lessA withA
  rw [filt_congr (g := fun t => !hitB p q t) fun t ht => by
    obtain ⟨h1, _⟩ := h.ok t ht
    rw [hit_ends hpq (show t.1 ≠ t.2.1 by omega), net_ends h ht]]
theorem net_wOf {n : Nat} {ts : List Arc} (h : Net n ts) (E : Nat × Nat) : ((ts.filter fun t => decide ((t.1, t.2.1) = E)).map fun t => t.2.2).sum = wOf ts E := by
  unfold wOf
  rw [filt_congr (g := fun t => decide (endsA t = E)) fun t ht => by rw [net_ends h ht]]
section
variable {P : Program} {w : World} {K : PySem.W.Frag} {mg : Str → Option Value} {base : Heap} {C N : Addr}
def spCheckPlace : Sp := fun vs H Q _ => ∃ p n : Nat, vs = [.int p, .int n] ∧ p < n ∧ Q .non H
def spCheckOther : Sp := fun vs H Q _ => ∃ q p n : Nat, vs = [.int q, .int p, .int n] ∧ q < n ∧ q ≠ p ∧ Q .non H
def spCheckWeight : Sp := fun vs H Q _ => ∃ p : Nat, vs = [.int p] ∧ Q .non H
/-! weight_of -/
abbrev NWO2 : List Str := ["web", "place", "other_place", "ends", "low", "high", "weight"]
def spWeightOf (C : Addr) : Sp := fun vs H Q _ => ∃ (a : Addr) (p q n : Nat) (ts : List Arc), vs = [.ref a, .int p, .int q] ∧ WebAt C H a n ts ∧ Net n ts ∧ p < n ∧ q < n ∧ p ≠ q ∧ ∀ H', Ex H H' → Q (.int (wOf ts (min p q, max p q) : Nat)) H'
def spTiesWithout (C : Addr) : Sp := fun vs H Q _ => ∃ (G : Hp) (l : List (Addr × HO)) (a : Addr) (p q n : Nat) (ts : List Arc), vs = [.ref a, .int p, .int q] ∧ Has G H l ∧ WebAt C G a n ts ∧ ts.length ≤ 1000 ∧
  ∀ (G' H' : Hp) (t : Addr) (xs : List V), Ex G G' → Has G' H' ((t, .lst xs) :: l) → Ats G' xs ((lessA ts (min p q, max p q)).map arcD) → Q (.ref t) H'
/-! a web made -/
theorem webs_made {f : Addr} {fd : FuncData} (M : WM P w K mg base C f fd) {G H : Hp} {l : List (Addr × HO)} {n : Nat} {ll : Addr} {xs : List V} {ts : List Arc} {R : Hp → Prop} {x dx : Addr} (nx : H x = none) (ndx : H dx = none) (hne : x ≠ dx) (S : Has G H l) (st : Stays G l ll (.lst xs)) (hx : Ats G xs (ts.map arcD)) (hok : ∀ t ∈ ts, arcOk n t) (lts : ts.length ≤ 1000) (hn : 0 < n) (hn100 : n ≤ 100)
    (k : ∀ (G' H' : Hp), Ex G G' → Has G' H' l → WebAt C G' x n (sumA n ts) → R H') : spWInit C [.ref x, .int n, .ref ll] (upd (upd H dx (.own x)) x (.ins C dx [])) (fun z H' => z = .non ∧ R H') E0 := by
  have W1 := S.new (o := .own x) ndx
  have nx1 : (upd H dx (.own x)) x = none := by rw [upd_ne hne]; exact nx
  have W2 := W1.sink.new (o := .ins C dx []) nx1
  have ew := W1.exS
  refine ⟨_, l, x, dx, ll, n, xs, ts, rfl, W2, st.down ew (List.Sublist.refl _), hx.ex ew, hok, lts, hn, hn100, fun G8 H8 dl zs eG S8' hdl hz => ⟨rfl, ?_⟩⟩
  have S8 := S8'.sink
  have e8 := S8'.exS
  exact k _ H8 ((ew.trans eG).trans e8) S8 ⟨dx, dl, zs, upd_same, e8 _ _ hdl, hz.ex e8⟩
def spWithTie (C : Addr) : Sp := fun vs H Q _ => ∃ (G : Hp) (l : List (Addr × HO)) (a : Addr) (p q v n : Nat) (ts : List Arc), vs = [.ref a, .int p, .int q, .int v] ∧ Has G H l ∧ WebAt C G a n ts ∧ Net n ts ∧ n ≤ 20 ∧ p < n ∧ q < n ∧ p ≠ q ∧
  ∀ (G' H' : Hp) (x : Addr), Ex G G' → Has G' H' l → WebAt C G' x n (sumA n (withA ts p q v)) → Q (.ref x) H'
end
end TW
set_option Elab.async false
set_option linter.all false
set_option maxRecDepth 100000
set_option maxHeartbeats 1000000
namespace TW
open PySem PySem.Spec PyProof.Rows L2
/-! two sides, their cuts -/
def betA (ts : List Arc) (f g : Nat → Bool) : Nat := ((ts.filter fun t => (f t.1 && g t.2.1) || (f t.2.1 && g t.1)).map fun t => t.2.2).sum
def wIf (b : Bool) (w : Nat) : Nat := if b = true then w else 0
theorem cutA_cons (t : Arc) (ts : List Arc) (f : Nat → Bool) : cutA (t :: ts) f = wIf (f t.1 != f t.2.1) t.2.2 + cutA ts f := by
  unfold cutA wIf
  by_cases h : (f t.1 != f t.2.1) = true
  · rw [if_pos h, List.filter_cons_of_pos (p := fun t : Arc => f t.1 != f t.2.1) h, List.map_cons, List.sum_cons]
  · rw [if_neg h, List.filter_cons_of_neg (p := fun t : Arc => f t.1 != f t.2.1) h, Nat.zero_add]
theorem betA_cons (t : Arc) (ts : List Arc) (f g : Nat → Bool) : betA (t :: ts) f g = wIf ((f t.1 && g t.2.1) || (f t.2.1 && g t.1)) t.2.2 + betA ts f g := by
  unfold betA wIf
  by_cases h : ((f t.1 && g t.2.1) || (f t.2.1 && g t.1)) = true
  · rw [if_pos h, List.filter_cons_of_pos (p := fun t : Arc => (f t.1 && g t.2.1) || (f t.2.1 && g t.1)) h, List.map_cons, List.sum_cons]
  · rw [if_neg h, List.filter_cons_of_neg (p := fun t : Arc => (f t.1 && g t.2.1) || (f t.2.1 && g t.1)) h, Nat.zero_add]
theorem gap_one (a b c d : Bool) (w : Nat) : wIf (a != b) w + wIf (c != d) w = wIf ((a && c) != (b && d)) w + wIf ((a || c) != (b || d)) w + 2 * wIf (((a && !c) && (d && !b)) || ((b && !d) && (c && !a))) w := by
  unfold wIf
  cases a <;> cases b <;> cases c <;> cases d <;> simp <;> omega
theorem gap_two (a b c d : Bool) (w : Nat) : wIf (a != b) w + wIf (c != d) w = wIf ((a && !c) != (b && !d)) w + wIf ((c && !a) != (d && !b)) w + 2 * wIf (((a && c) && (!b && !d)) || ((b && d) && (!a && !c))) w := by
  unfold wIf
  cases a <;> cases b <;> cases c <;> cases d <;> simp <;> omega
theorem gaps_one (f g : Nat → Bool) : ∀ ts : List Arc, cutA ts f + cutA ts g = cutA ts (fun k => f k && g k) + cutA ts (fun k => f k || g k) + 2 * betA ts (fun k => f k && !g k) (fun k => g k && !f k)
  | [] => rfl
  | t :: ts => by
    have ih := gaps_one f g ts
    have h := gap_one (f t.1) (f t.2.1) (g t.1) (g t.2.1) t.2.2
    rw [cutA_cons, cutA_cons, cutA_cons, cutA_cons, betA_cons]
    omega
theorem gaps_two (f g : Nat → Bool) : ∀ ts : List Arc, cutA ts f + cutA ts g = cutA ts (fun k => f k && !g k) + cutA ts (fun k => g k && !f k) + 2 * betA ts (fun k => f k && g k) (fun k => !f k && !g k)
  | [] => rfl
  | t :: ts => by
    have ih := gaps_two f g ts
    have h := gap_two (f t.1) (f t.2.1) (g t.1) (g t.2.1) t.2.2
    rw [cutA_cons, cutA_cons, cutA_cons, cutA_cons, betA_cons]
    omega
theorem betA_congr {ts : List Arc} {f g f' g' : Nat → Bool} {n : Nat} (hts : ∀ t ∈ ts, arcOk n t) (h : ∀ k, k < n → f k = f' k ∧ g k = g' k) : betA ts f g = betA ts f' g' := by
  unfold betA
  rw [filt_congr (g := fun t => (f' t.1 && g' t.2.1) || (f' t.2.1 && g' t.1)) fun t ht => by
    obtain ⟨h1, h2, _⟩ := hts t ht
    rw [(h _ h1).1, (h _ h1).2, (h _ h2).1, (h _ h2).2]]
theorem cutA_congrN {ts : List Arc} {f g : Nat → Bool} {n : Nat} (hts : ∀ t ∈ ts, arcOk n t) (h : ∀ k, k < n → f k = g k) : cutA ts f = cutA ts g := by
  unfold cutA
  rw [filt_congr (g := fun t => g t.1 != g t.2.1) fun t ht => by
    obtain ⟨h1, h2, _⟩ := hts t ht
    rw [h _ h1, h _ h2]]
/-! masks -/
theorem and_split : ∀ (x y : Nat), (x &&& y) + (x &&& (x ^^^ y)) = x := by
  intro x
  induction x using Nat.strongRecOn with
  | _ x ih =>
    intro y
    by_cases h0 : x = 0
    · subst h0
      simp
    · have ih := ih (x / 2) (by omega) (y / 2)
      have d1 : (x &&& y) / 2 = x / 2 &&& y / 2 := Nat.and_div_two
      have d2 : (x &&& (x ^^^ y)) / 2 = x / 2 &&& (x / 2 ^^^ y / 2) := by rw [Nat.and_div_two, Nat.xor_div_two]
      have m1 : (x &&& y) % 2 = (x % 2) &&& (y % 2) := Nat.and_mod_two_pow (n := 1)
      have m2 : (x &&& (x ^^^ y)) % 2 = (x % 2) &&& ((x % 2) ^^^ (y % 2)) := by
        have h1 : (x &&& (x ^^^ y)) % 2 = (x % 2) &&& ((x ^^^ y) % 2) := Nat.and_mod_two_pow (n := 1)
        have h2 : (x ^^^ y) % 2 = (x % 2) ^^^ (y % 2) := Nat.xor_mod_two_pow (n := 1)
        rw [h1, h2]
      have hx := Nat.mod_two_eq_zero_or_one x
      have hy := Nat.mod_two_eq_zero_or_one y
      rw [← d1, ← d2] at ih
      rcases hx with hx | hx <;> rcases hy with hy | hy <;> rw [hx, hy] at m1 m2
      · have n1 : (x &&& y) % 2 = 0 := m1
        have n2 : (x &&& (x ^^^ y)) % 2 = 0 := m2
        omega
      · have n1 : (x &&& y) % 2 = 0 := m1
        have n2 : (x &&& (x ^^^ y)) % 2 = 0 := m2
        omega
      · have n1 : (x &&& y) % 2 = 0 := m1
        have n2 : (x &&& (x ^^^ y)) % 2 = 1 := m2
        omega
      · have n1 : (x &&& y) % 2 = 1 := m1
        have n2 : (x &&& (x ^^^ y)) % 2 = 0 := m2
        omega
theorem bit_less (x y k : Nat) : (x - (x &&& y)).testBit k = (x.testBit k && !y.testBit k) := by
  have h := and_split x y
  have e : x - (x &&& y) = x &&& (x ^^^ y) := by omega
  rw [e, Nat.testBit_and, Nat.testBit_xor]
  cases x.testBit k <;> cases y.testBit k <;> rfl
theorem and_le (x y : Nat) : x &&& y ≤ x := Nat.and_le_left
theorem bitW (x : Nat) (k : Nat) : bitB (x : Int) k = x.testBit k := by
  unfold bitB
  rw [Nat.testBit_eq_decide_div_mod_eq, decide_eq_decide]
  have e : ((x : Int) / 2 ^ k) % 2 = ((x / 2 ^ k % 2 : Nat) : Int) := by push_cast; rfl
  rw [e]
  omega
theorem borW (a b : Nat) : Builtin.bitOr (a : Int) (b : Int) = ((a ||| b : Nat) : Int) := by
  unfold Builtin.bitOr
  rw [bitAnd_nn (by unfold Builtin.bitNot; omega) (by unfold Builtin.bitNot; omega)]
  have e : ∀ x : Int, Builtin.bitNot (Builtin.bitNot x) = x := fun x => by unfold Builtin.bitNot; omega
  rw [e, e, e, Int.toNat_natCast, Int.toNat_natCast]
theorem bandW (a b : Nat) : Builtin.bitAnd (a : Int) (b : Int) = ((a &&& b : Nat) : Int) := by
  rw [bitAnd_pp (by omega) (by omega), Int.toNat_natCast, Int.toNat_natCast]
theorem betA_snoc (t : Arc) (ts : List Arc) (f g : Nat → Bool) : betA (ts ++ [t]) f g = betA ts f g + wIf ((f t.1 && g t.2.1) || (f t.2.1 && g t.1)) t.2.2 := by
  unfold betA wIf
  rw [List.filter_append, List.map_append, List.sum_append]
  congr 1
  by_cases h : ((f t.1 && g t.2.1) || (f t.2.1 && g t.1)) = true
  · rw [if_pos h, List.filter_cons_of_pos (p := fun t : Arc => (f t.1 && g t.2.1) || (f t.2.1 && g t.1)) h]
    simp
  · rw [if_neg h, List.filter_cons_of_neg (p := fun t : Arc => (f t.1 && g t.2.1) || (f t.2.1 && g t.1)) h]
    simp
theorem bandBit (x y lo hi : Nat) : Builtin.bitAnd ((x : Int) / 2 ^ lo) ((y : Int) / 2 ^ hi) % 2 ^ 1 = if (x.testBit lo && y.testBit hi) = true then 1 else 0 := by
  have e1 : (x : Int) / 2 ^ lo = ((x / 2 ^ lo : Nat) : Int) := by push_cast; rfl
  have e2 : (y : Int) / 2 ^ hi = ((y / 2 ^ hi : Nat) : Int) := by push_cast; rfl
  rw [e1, e2, bandW, Nat.testBit_eq_decide_div_mod_eq, Nat.testBit_eq_decide_div_mod_eq]
  have m : (x / 2 ^ lo &&& y / 2 ^ hi) % 2 = (x / 2 ^ lo % 2) &&& (y / 2 ^ hi % 2) := Nat.and_mod_two_pow (n := 1)
  generalize x / 2 ^ lo &&& y / 2 ^ hi = z at m ⊢
  have hx := Nat.mod_two_eq_zero_or_one (x / 2 ^ lo)
  have hy := Nat.mod_two_eq_zero_or_one (y / 2 ^ hi)
  rw [Int.pow_one]
  rcases hx with hx | hx <;> rcases hy with hy | hy <;> rw [hx, hy] at m <;> rw [hx, hy]
  · have n1 : z % 2 = 0 := m
    rw [if_neg (by decide)]
    omega
  · have n1 : z % 2 = 0 := m
    rw [if_neg (by decide)]
    omega
  · have n1 : z % 2 = 0 := m
    rw [if_neg (by decide)]
    omega
  · have n1 : z % 2 = 1 := m
    rw [if_pos (by decide)]
    omega
section
variable {P : Program} {w : World} {K : PySem.W.Frag} {mg : Str → Option Value} {base : Heap} {C N : Addr}
/-! _law_between -/
abbrev NBE : List Str := ["arcs", "first", "second", "out", "low", "high", "heavy", "ahead"]
def spBetween (K : PySem.W.Frag) : Sp := fun vs H Q _ => ∃ (a : Addr) (x y : Nat) (xs : List V) (ts : List Arc), vs = [.ref a, .int x, .int y] ∧ SqL K H a xs ∧ Ats H xs (ts.map arcD) ∧ ts.length ≤ 10000 ∧ Q (.int (betA ts x.testBit y.testBit : Nat)) H
/-! _law_two_sides -/
abbrev NTS : List Str := ["well", "whole", "a", "b", "manner"]
def spTwoSides : Sp := fun vs H Q _ => ∃ (G : Hp) (l : List (Addr × HO)) (p : Addr) (o : HO) (k W : Nat), vs = [.ref p, .int W] ∧ Has G H ((p, o) :: l) ∧ WellO k o ∧ k < 10 ^ 8 ∧ W ≤ 1000 ∧
  ∀ (G' H' : Hp) (o' : HO) (t : Addr) (x y : Nat), Ex G G' → Has G' H' ((p, o') :: l) → WellO (k + 3) o' → G' t = some (.lst [.int x, .int y]) → x ≤ W → y ≤ W → Q (.ref t) H'
end
end TW
set_option Elab.async false
set_option linter.all false
set_option maxRecDepth 100000
set_option maxHeartbeats 1000000
namespace TW
open PySem PySem.Spec PyProof.Rows L2
/-! cut_gaps -/
def fIn (xs : List Int) (k : Nat) : Bool := decide ((k : Int) ∈ xs)
theorem fIn_both (xs ys : List Int) : (fun k : Nat => decide ((k : Int) ∈ xs.filter fun x => decide (x ∈ ys))) = fun k => fIn xs k && fIn ys k := by
  funext k
  unfold fIn
  rw [Bool.eq_iff_iff]
  simp
theorem fIn_less (xs ys : List Int) : (fun k : Nat => decide ((k : Int) ∈ xs.filter fun x => !decide (x ∈ ys))) = fun k => fIn xs k && !fIn ys k := by
  funext k
  unfold fIn
  rw [Bool.eq_iff_iff]
  simp
theorem fIn_all (xs ys : List Int) : (fun k : Nat => decide ((k : Int) ∈ ((xs.filter fun x => !decide (x ∈ ys)) ++ (xs.filter fun x => decide (x ∈ ys))) ++ (ys.filter fun x => !decide (x ∈ xs)))) = fun k => fIn xs k || fIn ys k := by
  funext k
  unfold fIn
  rw [Bool.eq_iff_iff]
  simp only [List.mem_append, List.mem_filter, decide_eq_true_eq, Bool.not_eq_true', decide_eq_false_iff_not, Bool.or_eq_true]
  by_cases h1 : (k : Int) ∈ xs <;> by_cases h2 : (k : Int) ∈ ys <;> simp [h1, h2]
theorem gap1 {ts : List Arc} {f g : Nat → Bool} : ((cutA ts f : Nat) : Int) + (cutA ts g : Nat) - ((cutA ts (fun k => f k && g k) : Nat) + (cutA ts (fun k => f k || g k) : Nat)) = 2 * (betA ts (fun k => f k && !g k) (fun k => g k && !f k) : Nat) := by
  have := gaps_one f g ts
  omega
theorem gap2 {ts : List Arc} {f g : Nat → Bool} : ((cutA ts f : Nat) : Int) + (cutA ts g : Nat) - (cutA ts (fun k => f k && !g k) : Nat) - (cutA ts (fun k => g k && !f k) : Nat) = 2 * (betA ts (fun k => f k && g k) (fun k => !f k && !g k) : Nat) := by
  have := gaps_two f g ts
  omega
section
variable {P : Program} {w : World} {K : PySem.W.Frag} {mg : Str → Option Value} {base : Heap} {C N : Addr}
abbrev NCG : List Str := ["web", "side", "other_side", "common", "alone", "other_alone", "both_cuts", "crossed", "place"]
def spGaps (K : PySem.W.Frag) (C : Addr) : Sp := fun vs H Q _ => ∃ (a pa pb : Addr) (n : Nat) (ts : List Arc) (xs ys : List Int), vs = [.ref a, .ref pa, .ref pb] ∧ WebAt C H a n ts ∧ SqT K H pa (xs.map V.int) ∧ SqT K H pb (ys.map V.int) ∧ xs.length ≤ 1000 ∧ ys.length ≤ 1000 ∧ isLot xs (some (n : Int)) = true ∧ isLot ys (some (n : Int)) = true ∧ ts.length ≤ 10000 ∧
  ∀ (H' : Hp) (p : Addr), Ex H H' → H' p = some (.tup [.int (2 * (betA ts (fun k => fIn xs k && !fIn ys k) (fun k => fIn ys k && !fIn xs k) : Nat)), .int (2 * (betA ts (fun k => fIn xs k && fIn ys k) (fun k => !fIn xs k && !fIn ys k) : Nat))]) → Q (.ref p) H'
end
end TW
set_option Elab.async false
set_option linter.all false
set_option maxRecDepth 100000
set_option maxHeartbeats 1000000
namespace TW
open PySem PySem.Spec PyProof.Rows L2
def nearA (ts : List Arc) (a b : Nat) : Nat := betA ts (fun k => a.testBit k && !b.testBit k) (fun k => b.testBit k && !a.testBit k)
def apartA (ts : List Arc) (a b : Nat) : Nat := betA ts (fun k => a.testBit k && b.testBit k) (fun k => !a.testBit k && !b.testBit k)
theorem bitF (x : Nat) : bitB (x : Int) = x.testBit := funext (bitW x)
theorem andF (a b : Nat) : (a &&& b).testBit = fun k => a.testBit k && b.testBit k := funext fun k => Nat.testBit_and a b k
theorem orF (a b : Nat) : (a ||| b).testBit = fun k => a.testBit k || b.testBit k := funext fun k => Nat.testBit_or a b k
theorem lessF (a b : Nat) : (a - (a &&& b)).testBit = fun k => a.testBit k && !b.testBit k := funext fun k => bit_less a b k
theorem lessG (a b : Nat) : (b - (a &&& b)).testBit = fun k => b.testBit k && !a.testBit k := by
  rw [Nat.and_comm]
  exact lessF b a
theorem told1 (ts : List Arc) (a b : Nat) : ((cutA ts (bitB (a : Int)) : Nat) : Int) + (cutA ts (bitB (b : Int)) : Nat) - (cutA ts (bitB ((a &&& b : Nat) : Int)) : Nat) - (cutA ts (bitB ((a ||| b : Nat) : Int)) : Nat) = 2 * (nearA ts a b : Nat) := by
  have h := gaps_one a.testBit b.testBit ts
  unfold nearA
  rw [bitF, bitF, bitF, bitF, andF, orF]
  omega
theorem told2 (ts : List Arc) (a b : Nat) : ((cutA ts (bitB (a : Int)) : Nat) : Int) + (cutA ts (bitB (b : Int)) : Nat) - (cutA ts (bitB ((a - (a &&& b) : Nat) : Int)) : Nat) - (cutA ts (bitB ((b - (a &&& b) : Nat) : Int)) : Nat) = 2 * (apartA ts a b : Nat) := by
  have h := gaps_two a.testBit b.testBit ts
  unfold apartA
  rw [bitF, bitF, bitF, bitF, lessF, lessG]
  omega
theorem bitLot {n : Nat} (m : Int) {k : Nat} (hk : k < n) : decide ((k : Int) ∈ lotOf m n) = bitB m k := by
  rw [Bool.eq_iff_iff, decide_eq_true_eq, lot_mem]
  constructor
  · rintro ⟨j, _, hj, e⟩
    have : j = k := by omega
    rw [← this]
    exact hj
  · intro h
    exact ⟨k, hk, h, rfl⟩
theorem cutLot {n : Nat} {ts : List Arc} (h : ∀ t ∈ ts, arcOk n t) (m : Int) : (cutA ts fun k => decide ((k : Int) ∈ lotOf m n)) = cutA ts (bitB m) := cutA_congrN h fun k hk => bitLot m hk
section
variable {P : Program} {w : World} {K : PySem.W.Frag} {mg : Str → Option Value} {base : Heap} {C N : Addr}
abbrev NCT : List Str := ["net", "many", "a", "b", "row", "cuts", "both", "mask"]
def spCutsTold (C : Addr) : Sp := fun vs H Q _ => ∃ (x : Addr) (n : Nat) (ts : List Arc) (a b : Nat), vs = [.ref x, .int n, .int a, .int b] ∧ WebAt C H x n ts ∧ (∀ t ∈ ts, arcOk n t) ∧ n ≤ 100 ∧ ts.length ≤ 10000 ∧
  ∀ (H' : Hp) (p : Addr), Ex H H' → H' p = some (.tup [.int (2 * (nearA ts a b : Nat)), .int (2 * (apartA ts a b : Nat))]) → Q (.ref p) H'
theorem ok_cut_of' {gp gg : Addr} {gpd : FuncData} (D : Dfn K mg "cut_of" s_cut_of ["web", "side"]) (T : WC K mg C) (PP : TG P w K mg base C gp gg gpd "places" (spWPlaces C)) (O_web : Ok P w K mg base 1 "check_web" ["web"] (spCheckWeb C)) (O_side : Ok P w K mg base 5 "check_side" ["side", "places"] (spCheckLot K)) (O_cut : Ok P w K mg base 3 "_cut" ["web", "places"] (spCut K C)) : Ok P w K mg base 6 "cut_of" ["web", "side"] (spCutOf K C) := D.ok fun f fd F => fn_cut_of F T PP O_web O_side O_cut
end
end TW
set_option Elab.async false
set_option linter.all false
set_option maxRecDepth 100000
set_option maxHeartbeats 4000000
/-! set(t), len(set(t)), t.index(x): t a tuple of ints -/
namespace TW
open PySem PySem.Spec PyProof.Rows L2
section
variable {P : Program} {w : World} {A : Around} {E : Value → Shared → Prop} {s : Shared}
theorem set_of_tup {l : Addr} {its : Array Value} (ns : List Int) {Q : Value → Shared → Prop} (noh : A.handled = none) (il : s.heap.IsTuple l its) (ii : IntsAre its.toList ns) (nd : ns.Nodup) (few : ns.length + 1 < scanBound)
    (go : ∀ (g : Heap) (tk : Nat), g.SetOf (intKind P w) s.heap.objs.size (fun k => ns.any (· == k)) ns.length → (∀ b o, s.heap.get? b = some o → g.get? b = some o) → Q (.ref s.heap.objs.size) { s with heap := g, toks := tk }) :
    wpAny (model P w) A (call (.type "set") [.ref l]) Q E s := by
  have size_eq : its.size = ns.length := by simpa using ii.length
  have C := F.called_set
  obtain ⟨c, tl, mro⟩ := C.mro
  have made_ := C.made
  have sub_ := C.sub
  have nt := C.notType
  have cc := C.canCreate
  have tc1 := F.typeCall_set_1 (.ref l)
  refine wpAny_call (codeAny_of_tree ?_)
  change wpAny _ _ (callAny (Value.type "set") ⟨[.ref l], []⟩) _ _ _
  refine wpAny_pure ⟨Code.quiet_builtin _ (by decide +kernel), codeAny_builtin F.entry_type_call ?_⟩
  rw [Around.under_plain (weight_type_call_type "set" _ _) rfl]
  repeat (any_goals (first | assumption | wp_step))
  refine codeAny_mono (code_set_led1 (.ref l) (E := E) (Q₁ := fun ob t => ob = .ref s.heap.objs.size ∧ t = { s with heap := s.heap.push (fresh0 w) }) ⟨rfl, rfl⟩) fun r t hr => ?_
  match r, hr with
  | .error e, hr => exact hr
  | .ok (.ret ob), hr =>
    obtain ⟨rfl, rfl⟩ := hr
    have at0 : (s.heap.push (fresh0 w)).get? s.heap.objs.size = some (fresh0 w) := Heap.get?_push_size _ rfl
    have ty0 : Shared.TypeIs { s with heap := s.heap.push (fresh0 w) } (.ref s.heap.objs.size) "set" := ⟨_, at0, rfl⟩
    have look_ := C.init.lookup
    have bind_ := C.init.bind (.ref s.heap.objs.size)
    repeat (any_goals (first | assumption | wp_step))
    refine codeAny_mono (codeAny_call_builtin (R := wants (fun r t => r = .none ∧ ∃ g tk, t = { s with heap := g, toks := tk } ∧ g.SetOf (intKind P w) s.heap.objs.size (fun k => ns.any (· == k)) ns.length ∧ (∀ b o, s.heap.get? b = some o → g.get? b = some o)) E) C.init.plain F.entry_set_init (check_set_init_1 ty0 ?_)) fun r2 t2 hr2 => ?_
    · obtain ⟨⟨lc, ld, ldat, lsl⟩, lat, e1, nl, e2⟩ := il
      simp only at e1 e2
      subst e1
      subst e2
      have lat1 : (s.heap.push (fresh0 w)).get? l = some { cls := .type "tuple", dict := ld, data := .seq its nl, slots := lsl } := Heap.get?_push_of_some _ lat
      have k1 := F.sub_tuple_set
      have k2 := F.sub_tuple_frozenset
      have k3 : (Value.type "tuple" == Value.type "dict") = false := by decide
      have il1 : (s.heap.push (fresh0 w)).IsTuple l its := ⟨_, lat1, rfl, nl, rfl⟩
      unfold Builtin.«set.__init__» noKeywords Builtin.Frozenset.updateFrom
      generalize ePI : pyIter = PI
      wp_walk
      subst ePI
      refine wpAny_pyIter_tuple il1 (wpAny_bind (wpAny_runValue ?_))
      have ll := Heap.lt_size lat
      have sz1 : (s.heap.push (fresh0 w)).objs.size = s.heap.objs.size + 1 := Heap.size_push ..
      have noh3 : A.in1.in1.in1.handled = none := by simp [noh]
      have nI : l ≠ (s.heap.push (fresh0 w)).objs.size := sz1 ▸ Nat.ne_of_lt (Nat.lt_succ_of_lt ll)
      have nS : s.heap.objs.size ∉ [(s.heap.push (fresh0 w)).objs.size, l] := by
        simp only [List.mem_cons, List.not_mem_nil, or_false, not_or]
        exact ⟨sz1 ▸ Nat.ne_of_lt (Nat.lt_succ_self _), Nat.ne_of_gt ll⟩
      have vals_ : ∀ (i : Nat) (v : Value), its[i]? = some v → ∃ t, v = .int ((fun i => ns.getD i 0) i) t := fun i v hv => IntsAre.int_at ii i v (by simpa using hv)
      refine codeAny_set_update_loopS ((Walks.tuple noh3 _ l nI its).toS) s.heap.objs.size nS (fun i => ns.getD i 0) vals_ (by omega) (its.size - 0) 0 _ (by omega) (Nat.zero_le _) ⟨⟨_, Heap.get?_push_size _ rfl, rfl, rfl⟩, il1.push _⟩ ?_ ?_
      · have hget : ((s.heap.push (fresh0 w)).push { cls := .type "tuple_iterator", data := .fields #[.ref l, .int 0 0] }).get? s.heap.objs.size = some (fresh0 w) := Heap.get?_push_of_some _ at0
        exact SetOf_congr ((setObjOf_fresh (knd := intKind P w) _).setOf hget (by unfold scanBound; omega)) (fun _ => rfl) rfl
      · rintro ⟨g, g2, d2, tk, os2⟩ mv R2
        have z1 : g2 = s.gens := mv.gens
        have z2 : d2 = s.drawn := mv.drawn
        have z3 : os2 = s.os := mv.os
        subst z1 z2 z3
        rw [size_eq, RZ.firstMet_nodup nd ns.length (Nat.le_refl _), List.take_length] at R2
        show wpAny _ _ _ _ _ _
        refine wpAny_pure ?_
        show wpAny _ _ (ret Value.none) _ _ _
        refine wpAny_pure ⟨rfl, g, tk, rfl, R2, fun b o e => ?_⟩
        have bl := Heap.lt_size e
        refine mv.heap b o ?_ (Heap.get?_push_of_some _ (Heap.get?_push_of_some _ e))
        simp only [List.mem_cons, List.not_mem_nil, or_false, not_or]
        exact ⟨Nat.ne_of_lt bl, sz1 ▸ Nat.ne_of_lt (Nat.lt_succ_of_lt bl)⟩
    · match r2, hr2 with
      | .error e, hr2 => exact hr2
      | .ok (.ret r3), hr2 =>
        obtain ⟨rfl, g, tk, rfl, R2, kp⟩ := hr2
        repeat (any_goals (first | assumption | wp_step))
        exact go _ _ R2 kp
      | .ok .next, hr2 => exact hr2.elim
      | .ok .brk, hr2 => exact hr2.elim
      | .ok .cont, hr2 => exact hr2.elim
  | .ok .next, hr => exact hr.elim
  | .ok .brk, hr => exact hr.elim
  | .ok .cont, hr => exact hr.elim
end
section
variable {X : Cx} {K : PySem.W.Frag}
/-- len(set(t)), t a tuple of ints, each once -/
def tLenSetT (K : PySem.W.Frag) (ta : TE) : TE := fun σ H Q => ta σ H fun x H1 => ∃ (l : Addr) (ns : List Int), x = .ref l ∧ SqT K H1 l (ns.map V.int) ∧ ns.Nodup ∧ ns.length ≤ 4000 ∧ Q (.int (ns.length : Nat)) H1
theorem pe_lenSetT {a : Expr} {ta : TE} {p p2 q pos : Pos} (hg : Gl X "len") (hm : X.mg "len" = none) (hg2 : Gl X "set") (hm2 : X.mg "set" = none) (ha : PE X a ta) (hc : X.calm = true := by rfl) (hK : X.K = K := by rfl)
    (na : starEach [a] X.env = (false, eval a X.env) :: starEach [] X.env := by rfl) : PE X (.Call (.Name "len" p) [.Call (.Name "set" p2) [a] [] q] [] pos) (tLenSetT K ta) := by
  subst hK
  refine ⟨fun pins s σ H Q I h => ?_⟩
  refine Call_ (ld_blt I hg hm boot_len ?_)
  refine callWith_builtin1 (args_cons ?_ rfl) rfl rfl
  refine Call_ (ld_blt I hg2 hm2 boot_set ?_)
  refine callWith_type1 (args_cons (thn (ha.run pins s σ H _ I h) fun v s1 ⟨x, H1, I1, r1, q1⟩ => args_nil ?_) na) na rfl
  obtain ⟨l, ns, rfl, hq, hnd, hl, q1⟩ := q1
  cases r1
  obtain ⟨its, r, pl, hz⟩ := I1.tuple hq
  refine set_of_tup (P := X.prog) (w := X.w) ns (I1.ok.hd hc) pl (by simpa using RZ.intsAre_vals r) hnd (by unfold scanBound; omega) fun h' tk hS hk => ?_
  refine args_nil ?_
  obtain ⟨o, es, ep, t, ho, hex, hd, _, _, _, hf, hn⟩ := hS
  have I2 : Inv X pins σ H1 { s1 with heap := h', toks := tk } := I1.kept hk
  exact call_len_set ho hex hd hf (by rw [hn] <;> omega) ⟨.int ns.length, H1, I2.tok _, ⟨_, by rw [hn]⟩, q1⟩
theorem flatsI (ns : List Int) : (ns.map V.int).all flatV = true := by
  rw [List.all_map]
  exact List.all_eq_true.mpr fun _ _ => rfl
/-- t.index(x), the first place -/
def rTupIx (K : PySem.W.Frag) : V → List V → Hp → VK → Prop := fun x xs H Q => ∃ (p : Addr) (ys : List Int) (z : Int) (j : Nat), x = .ref p ∧ xs = [.int z] ∧ SqT K H p (ys.map V.int) ∧ ys[j]? = some z ∧ (∀ m, m < j → ys[m]? ≠ some z) ∧ Q (.int (j : Nat)) H
theorem mt_tupIx (hK : X.K = K := by rfl) : MtR X "tuple.index" (rTupIx K) := by
  subst hK
  intro pins s σ H x xs v us Q I rx rs h
  obtain ⟨p, ys, z, j, rfl, rfl, hq, hy, hno, q⟩ := h
  cases rx
  obtain ⟨u, rfl, t, rfl⟩ := vals1 rs
  obtain ⟨its, r, pl, hz⟩ := I.tuple hq
  obtain ⟨⟨cls, dd, dt, sl⟩, ho, hc, n, hd⟩ := pl
  simp only at hc hd
  subst hc
  subst hd
  have hl : its.toArray.size = ys.length := by rw [List.size_toArray, ← r.length, List.length_map]
  have hj : j < its.toArray.size := by rw [hl]; exact (List.getElem?_eq_some_iff.mp hy).1
  have at' : ∀ (m : Nat) (hm : m < its.toArray.size), ∃ y t', ys[m]? = some y ∧ its.toArray[m] = Value.int y t' := fun m hm => by
    have hm' : m < ys.length := by rw [← hl]; exact hm
    obtain ⟨w, hw, t', hw'⟩ := r.get (i := m) (x := .int ys[m]) (by simp [hm'])
    refine ⟨ys[m], t', List.getElem?_eq_getElem hm', ?_⟩
    have e := (List.getElem?_eq_some_iff.mp hw).2
    rw [← hw', ← e]
    simp
  refine call_meets PySem.F.slot_tuple_index ⟨_, ho, rfl⟩ PySem.F.entry_tuple_index (PySem.F.args_tuple_index_2 _ _) (TI.tuple_indexAt p its.toArray n dd sl (.int z t) (eqU (.int z)) j hj ?_ ?_)
    ⟨ho, fun w hw => mem_eqAt (x := .int z) ⟨t, rfl⟩ rfl r (flatsI ys) w (by simpa using hw), ⟨.int (j : Nat), H, I.tok _, ⟨_, rfl⟩, q⟩⟩
  · obtain ⟨y, t', h1, h2⟩ := at' j hj
    rw [hy] at h1
    cases h1
    rw [h2]
    show (z == z) = true
    exact beq_self_eq_true z
  · intro m hm hmj
    obtain ⟨y, t', h1, h2⟩ := at' m hm
    rw [h2]
    show (y == z) = false
    exact beq_eq_false_iff_ne.mpr fun e => hno m hmj (e ▸ h1)
end
end TW
/-! a made tuple whose object is known: its methods -/
namespace TW
open PySem PySem.Spec PyProof.Rows L2
/-- a tuple made here, without a dict of its own -/
def TupF (H : Hp) (a : Addr) (xs : List V) : Prop := ∃ o : Obj, H a = some (.frz o (.tup xs)) ∧ o.cls = .type "tuple" ∧ o.dict = none
theorem TupF.sq {K : PySem.W.Frag} {H : Hp} {a : Addr} {xs : List V} (h : TupF H a xs) : SqT K H a xs := by
  obtain ⟨o, h, _⟩ := h
  exact .inl (.inr ⟨o, h⟩)
theorem TupF.ex {H H' : Hp} {a : Addr} {xs : List V} (h : TupF H a xs) (e : Ex H H') : TupF H' a xs := by
  obtain ⟨o, h, z⟩ := h
  exact ⟨o, e _ _ h, z⟩
section
variable {X : Cx} {K : PySem.W.Frag}
def rTupF (K : PySem.W.Frag) : List V → Hp → VK → Prop := fun xs H Q => ∃ p ys, xs = [.ref p] ∧ SqL K H p ys ∧ ∀ (l : Addr) (o : Obj), H l = none → o.cls = .type "tuple" → o.dict = none → Q (.ref l) (upd H l (.frz o (.tup ys)))
theorem cr_tupF (h : X.K = K := by rfl) : CallR X (.type "tuple") (rTupF K) := by
  subst h
  intro pins s σ H xs us Q I r h
  obtain ⟨p, ys, rfl, hq, q⟩ := h
  rw [Vals.ref1 r]
  obtain ⟨its, r', pl, hz⟩ := I.list hq
  have hlen := r'.length
  refine call_tuple_list pl.isList (fun h' kp => ?_) (by simp only [List.size_toArray] <;> omega)
  have I1 : Inv X pins σ H { s with heap := h' } := I.kept (t' := s.toks) kp
  have I2 : Inv X pins σ (upd H h'.objs.size (.frz { cls := .type "tuple", data := .seq its.toArray } (.tup ys))) { s with heap := h'.push { cls := .type "tuple", data := .seq its.toArray } } :=
    I1.laid (t' := s.toks) (fun b o e => Heap.get?_push_of_some _ e) (Nat.le_refl _) (show ObjOk X.prog X.w _ _ _ (.frz _ (.tup ys)) from ⟨Heap.get?_push_size _ rfl, hz, its, r', IsTup.new _ _⟩)
  exact ⟨.ref h'.objs.size, _, I2, rfl, q _ _ (I1.hok.fresh (Nat.le_refl _)) rfl rfl⟩
def tBMT (r : V → List V → Hp → VK → Prop) (to : TE) (t : TA) : TE := fun σ H Q => to σ H fun x H1 => (∃ a xs, x = .ref a ∧ TupF H1 a xs) ∧ t σ H1 fun xs H2 => r x xs H2 Q
theorem pe_bmT {o e : Expr} {es : List Expr} {to : TE} {t : TA} {name : Str} {apos cpos : Pos} {id : String} {r : V → List V → Hp → VK → Prop} (slot : Slot "tuple" name id) (hty : typeOf (.builtin id) = pure (.type "method_descriptor")) (hm : MtR X id r) (ho : PE X o to) (ha : PA X (e :: es) t)
    (hbase : attributeBase o name X.env (eval o X.env) = eval o X.env := by rfl)
    (hfew : ((backTo cpos (starEach (e :: es) X.env)).all (fun x => !x.1) && (backToKw cpos (keywordEach [] X.env)).all (fun x => x.1.isSome)
      && decide ((e :: es).length + ([] : List Keyword).length + (if ([] : List Keyword).isEmpty then 0 else 1) < 30)) = true := by rfl)
    (hline : (apos.endLine == cpos.line) = true := by rfl) (hs : starEach (e :: es) X.env = (false, eval e X.env) :: starEach es X.env := by rfl) (hplain : (backTo cpos (starEach es X.env)).any (·.1) = false := by rfl) :
    PE X (.Call (.Attribute o name apos) (e :: es) [] cpos) (tBMT r to t) := by
  refine ⟨fun pins s σ H Q I h => ?_⟩
  refine wpAny_Call_method_late hbase hfew hline rfl (thn (ho.run pins s σ H _ I h) fun v s1 ⟨x, H1, I1, r1, ⟨a, xs, ex, ob, hb, hc, hd⟩, q1⟩ => ?_)
  subst ex
  cases r1
  obtain ⟨at_, _⟩ := (show ObjOk X.prog X.w H1 s1.heap a (.frz ob (.tup xs)) from I1.hok a _ hb)
  refine ⟨"tuple", id, PySem.F.plainAttrs_tuple, slot, hty, ⟨ob, at_, hc⟩, fun b e => by cases e; exact ⟨ob, at_, hd⟩, ?_⟩
  have hA := ha.run cpos pins s1 σ H1 _ I1 q1
  rw [hs] at hA ⊢
  refine Calls.callWith_builtin (by show (false || (backTo cpos (starEach es X.env)).any (·.1)) = false; rw [hplain] <;> rfl) (Calls.evalArgs_plain ?_)
  exact thn hA fun us s2 ⟨vs, H2, I2, r2, q2⟩ => hm pins s2 σ H2 (.ref a) vs (.ref a) us Q I2 (show RelV (.ref a) (.ref a) from rfl) r2 q2
def tTupRgF (te : L2.St → Hp → (Int → Int → Hp → Prop) → Prop) : TE := fun σ H Q => te σ H fun a b H1 => RgOk a b ∧ ∀ (q : Addr) (o : Obj), H1 q = none → o.cls = .type "tuple" → o.dict = none → Q (.ref q) (upd H1 q (.frz o (.tup (rgV a b))))
theorem pe_tupRgF {e : Expr} {te : L2.St → Hp → (Int → Int → Hp → Prop) → Prop} {p pos : Pos} (hc : X.calm = true) (hg : Gl X "tuple") (hm : X.mg "tuple" = none) (he : PRg X e te) (na : starEach [e] X.env = (false, eval e X.env) :: starEach [] X.env := by rfl) : PE X (.Call (.Name "tuple" p) [e] [] pos) (tTupRgF te) := by
  refine ⟨fun pins s σ H Q I h => ?_⟩
  refine Call_ (ld_blt I hg hm boot_tuple (PyProof.Rows.callWith_type1 (args_cons (thn (he pins s σ H _ I h) fun x s1 ⟨r, a, b, t, u, v, H1, ex, hr, I1, ok, q⟩ => args_nil ?_) na) na))
  subst ex
  obtain ⟨b1, b2, b3, b4, b5⟩ := ok
  refine call_tuple_range (n := (b - a).toNat) (I1.ok.hd hc) hr (small_one b1 b2 b3 b4) (rangeSize_nat a b) b5 fun h' tk acc hk hi => ?_
  have I2 : Inv X pins σ H1 { s1 with heap := h', toks := tk } := I1.kept hk
  have ok : ObjOk X.prog X.w (upd H1 h'.objs.size (.frz { cls := .type "tuple", data := .seq acc } (.tup (rgV a b)))) (h'.push { cls := .type "tuple", data := .seq acc }) h'.objs.size (.frz { cls := .type "tuple", data := .seq acc } (.tup (rgV a b))) := by
    refine ⟨Heap.get?_push_size _ rfl, ?_, acc.toList, vals_rg hi, ?_⟩
    · rw [rgV_length, sizeLine_eq]; omega
    · rw [Array.toArray_toList]; exact IsTup.new _ _
  exact ⟨.ref h'.objs.size, _, I2.laid (t' := tk) (fun c o e => Heap.get?_push_of_some _ e) (Nat.le_refl _) ok, rfl, q _ _ (I2.hok.fresh (Nat.le_refl _)) rfl rfl⟩
theorem pe_bmK {o e : Expr} {es : List Expr} {to : TE} {t : TA} {name : Str} {apos cpos : Pos} {T id : String} {r : V → List V → Hp → VK → Prop} (pa : PlainAttrs T) (slot : Slot T name id) (hty : typeOf (.builtin id) = pure (.type "method_descriptor")) (hm : MtR X id r) (ho : PE X o to) (ha : PA X (e :: es) t) (hK : X.K = K := by rfl)
    (hbase : attributeBase o name X.env (eval o X.env) = eval o X.env := by rfl)
    (hfew : ((backTo cpos (starEach (e :: es) X.env)).all (fun x => !x.1) && (backToKw cpos (keywordEach [] X.env)).all (fun x => x.1.isSome)
      && decide ((e :: es).length + ([] : List Keyword).length + (if ([] : List Keyword).isEmpty then 0 else 1) < 30)) = true := by rfl)
    (hline : (apos.endLine == cpos.line) = true := by rfl) (hs : starEach (e :: es) X.env = (false, eval e X.env) :: starEach es X.env := by rfl) (hplain : (backTo cpos (starEach es X.env)).any (·.1) = false := by rfl) :
    PE X (.Call (.Attribute o name apos) (e :: es) [] cpos) (tBM K T r to t) := by
  subst hK
  exact pe_bm pa slot hty hm ho ha hbase hfew hline hs hplain
theorem mt_indexK (h : X.K = K := by rfl) : MtR X "list.index" (rIndex K) := by
  subst h
  exact mt_index
end
end TW
set_option Elab.async false
set_option linter.all false
set_option maxRecDepth 100000
set_option maxHeartbeats 1000000
namespace TW
open PySem PySem.Spec PyProof.Rows L2
/-! orders of places -/
abbrev IsOrd (row : List Nat) (n : Nat) : Prop := row.Perm (List.range n)
def renA (row : List Nat) (t : Arc) : Arc := (row.idxOf t.1, row.idxOf t.2.1, t.2.2)
theorem ord_mem {row : List Nat} {n k : Nat} (h : IsOrd row n) : k ∈ row ↔ k < n := by rw [h.mem_iff, List.mem_range]
theorem ord_nd {row : List Nat} {n : Nat} (h : IsOrd row n) : row.Nodup := h.nodup_iff.mpr List.nodup_range
theorem ord_len {row : List Nat} {n : Nat} (h : IsOrd row n) : row.length = n := by rw [h.length_eq, List.length_range]
theorem nd_inj {row : List Nat} (nd : row.Nodup) {i j k : Nat} (h1 : row[i]? = some k) (h2 : row[j]? = some k) : i = j := by
  obtain ⟨hi, e1⟩ := List.getElem?_eq_some_iff.mp h1
  obtain ⟨hj, e2⟩ := List.getElem?_eq_some_iff.mp h2
  rcases Nat.lt_trichotomy i j with c | c | c
  · exact absurd (e1.trans e2.symm) (List.pairwise_iff_getElem.mp nd i j hi hj c)
  · exact c
  · exact absurd (e2.trans e1.symm) (List.pairwise_iff_getElem.mp nd j i hj hi c)
theorem at_idx {row : List Nat} {k : Nat} (h : k ∈ row) : row[row.idxOf k]? = some k := by
  have hl := List.idxOf_lt_length_of_mem h
  rw [List.getElem?_eq_getElem hl, List.getElem_idxOf hl]
theorem idx_of {row : List Nat} (nd : row.Nodup) {i k : Nat} (h : row[i]? = some k) : row.idxOf k = i := nd_inj nd (at_idx (List.mem_of_getElem? h)) h
theorem idx_lt {row : List Nat} {n k : Nat} (h : IsOrd row n) (hk : k < n) : row.idxOf k < n := by
  have hl := List.idxOf_lt_length_of_mem ((ord_mem h).mpr hk)
  rw [ord_len h] at hl
  exact hl
theorem idx_eq {row : List Nat} {n k i a : Nat} (h : IsOrd row n) (hk : k < n) (ha : row[i]? = some a) : row.idxOf k = i ↔ k = a := by
  constructor
  · intro e
    have h1 := at_idx ((ord_mem h).mpr hk)
    rw [e, ha] at h1
    exact (Option.some.inj h1).symm
  · rintro rfl
    exact idx_of (ord_nd h) ha
theorem ren_ok {row : List Nat} {n : Nat} (h : IsOrd row n) {t : Arc} (ht : arcOk n t) : arcOk n (renA row t) := by
  obtain ⟨h1, h2, h3⟩ := ht
  refine ⟨idx_lt h h1, idx_lt h h2, fun e => h3 ?_⟩
  have e : row.idxOf t.1 = row.idxOf t.2.1 := e
  exact (idx_eq h h1 (at_idx ((ord_mem h).mpr h2))).mp e
theorem ren_oks {row : List Nat} {n : Nat} (h : IsOrd row n) {X : List Arc} (hX : ∀ t ∈ X, arcOk n t) : ∀ t ∈ X.map (renA row), arcOk n t := fun t ht => by
  obtain ⟨u, hu, rfl⟩ := List.mem_map.mp ht
  exact ren_ok h (hX u hu)
theorem wOf_ren {row : List Nat} {n : Nat} (h : IsOrd row n) {X : List Arc} (hX : ∀ t ∈ X, arcOk n t) {i j a b : Nat} (hij : i < j) (ha : row[i]? = some a) (hb : row[j]? = some b) : wOf (X.map (renA row)) (i, j) = wOf X (min a b, max a b) := by
  unfold wOf
  rw [List.filter_map, List.map_map]
  have hab : a ≠ b := fun e => by
    rw [e] at ha
    have := nd_inj (ord_nd h) ha hb
    omega
  rw [filt_congr (g := fun t : Arc => decide (endsA t = (min a b, max a b))) fun t ht => ?_]
  · rfl
  · obtain ⟨h1, h2, h3⟩ := hX t ht
    show decide (endsA (renA row t) = (i, j)) = _
    rw [decide_eq_decide]
    have x1 := idx_eq h h1 ha
    have x2 := idx_eq h h1 hb
    have y1 := idx_eq h h2 ha
    have y2 := idx_eq h h2 hb
    unfold endsA renA
    rw [Prod.mk.injEq, Prod.mk.injEq]
    show (min (row.idxOf t.1) (row.idxOf t.2.1) = i ∧ max (row.idxOf t.1) (row.idxOf t.2.1) = j) ↔ _
    generalize row.idxOf t.1 = x at *
    generalize row.idxOf t.2.1 = y at *
    generalize t.1 = lo at *
    generalize t.2.1 = hi at *
    constructor
    · rintro ⟨p, q⟩
      have : (x = i ∧ y = j) ∨ (x = j ∧ y = i) := by omega
      rcases this with ⟨p, q⟩ | ⟨p, q⟩
      · have := x1.mp p
        have := y2.mp q
        omega
      · have := x2.mp p
        have := y1.mp q
        omega
    · rintro ⟨p, q⟩
      have : (lo = a ∧ hi = b) ∨ (lo = b ∧ hi = a) := by omega
      rcases this with ⟨p, q⟩ | ⟨p, q⟩
      · have := x1.mpr p
        have := y2.mpr q
        omega
      · have := x2.mpr p
        have := y1.mpr q
        omega
theorem sum_ren {row : List Nat} {n : Nat} (h : IsOrd row n) {X : List Arc} (hX : ∀ t ∈ X, arcOk n t) : sumA n ((sumA n X).map (renA row)) = sumA n (X.map (renA row)) := sumA_of fun p h1 h2 => by
  obtain ⟨i, j⟩ := p
  have h1 : i < j := h1
  have h2 : j < n := h2
  have li : i < row.length := by rw [ord_len h]; omega
  have lj : j < row.length := by rw [ord_len h]; omega
  have ha : row[i]? = some row[i] := List.getElem?_eq_getElem li
  have hb : row[j]? = some row[j] := List.getElem?_eq_getElem lj
  rw [wOf_ren h sumA_ok h1 ha hb, wOf_ren h hX h1 ha hb]
  have ma := (ord_mem h).mp (List.mem_of_getElem? ha)
  have mb := (ord_mem h).mp (List.mem_of_getElem? hb)
  have ne : row[i] ≠ row[j] := fun e => by
    rw [e] at ha
    have := nd_inj (ord_nd h) ha hb
    omega
  generalize row[i] = a at *
  generalize row[j] = b at *
  exact wOf_sumA (by show min a b < max a b; omega) (by show max a b < n; omega)
theorem ren_ren {r1 r2 r3 : List Nat} {n : Nat} {X : List Arc} (hX : ∀ t ∈ X, arcOk n t) (h : ∀ k, k < n → r2.idxOf (r1.idxOf k) = r3.idxOf k) : (X.map (renA r1)).map (renA r2) = X.map (renA r3) := by
  rw [List.map_map]
  refine List.map_congr_left fun t ht => ?_
  obtain ⟨h1, h2, _⟩ := hX t ht
  show (r2.idxOf (r1.idxOf t.1), r2.idxOf (r1.idxOf t.2.1), t.2.2) = (r3.idxOf t.1, r3.idxOf t.2.1, t.2.2)
  rw [h _ h1, h _ h2]
theorem ren_id {r : List Nat} {n : Nat} {X : List Arc} (hX : ∀ t ∈ X, arcOk n t) (h : ∀ k, k < n → r.idxOf k = k) : X.map (renA r) = X := by
  conv => rhs; rw [← List.map_id X]
  refine List.map_congr_left fun t ht => ?_
  obtain ⟨h1, h2, _⟩ := hX t ht
  show (r.idxOf t.1, r.idxOf t.2.1, t.2.2) = t
  rw [h _ h1, h _ h2]
theorem idx_range {n k : Nat} (h : k < n) : (List.range n).idxOf k = k := idx_of List.nodup_range (by rw [List.getElem?_range h])
theorem ord_of {row : List Nat} {n : Nat} (nd : row.Nodup) (sub : ∀ k ∈ row, k < n) (len : row.length = n) : IsOrd row n := by
  refine (List.perm_ext_iff_of_nodup nd List.nodup_range).mpr fun k => ⟨fun h => List.mem_range.mpr (sub k h), fun h => ?_⟩
  by_cases c : k ∈ row
  · exact c
  · have hk := List.mem_range.mp h
    have := nodup_lenG (xs := k :: row) (ys := List.range n) (List.nodup_cons.mpr ⟨c, nd⟩) fun x hx => by
      rcases List.mem_cons.mp hx with rfl | hx
      · exact h
      · exact List.mem_range.mpr (sub x hx)
    rw [List.length_cons, List.length_range] at this
    omega
/-- the way back -/
theorem back_ord {row : List Nat} {n : Nat} (h : IsOrd row n) : IsOrd ((List.range n).map row.idxOf) n ∧ ∀ k, k < n → ((List.range n).map row.idxOf).idxOf (row.idxOf k) = k := by
  have nd : ((List.range n).map row.idxOf).Nodup := by
    refine List.pairwise_map.mpr (List.Pairwise.imp_of_mem (fun {a b} ha hb ne e => ne ?_) List.nodup_range)
    have ha := List.mem_range.mp ha
    have hb := List.mem_range.mp hb
    exact (idx_eq h ha (at_idx ((ord_mem h).mpr hb))).mp e
  refine ⟨ord_of nd (fun x hx => by
    obtain ⟨k, hk, rfl⟩ := List.mem_map.mp hx
    exact idx_lt h (List.mem_range.mp hk)) (by rw [List.length_map, List.length_range]), fun k hk => idx_of nd ?_⟩
  rw [List.getElem?_map, List.getElem?_range hk]
  rfl
theorem both_ord {one two : List Nat} {n : Nat} (h1 : IsOrd one n) (h2 : IsOrd two n) {both : List Nat} (hb : both.length = n) (hg : ∀ i k : Nat, two[i]? = some k → ∃ m, one[k]? = some m ∧ both[i]? = some m) : IsOrd both n ∧ ∀ k, k < n → two.idxOf (one.idxOf k) = both.idxOf k := by
  have get : ∀ i, i < n → ∃ k m, two[i]? = some k ∧ k < n ∧ one[k]? = some m ∧ both[i]? = some m := fun i hi => by
    have li : i < two.length := by rw [ord_len h2]; exact hi
    have e := List.getElem?_eq_getElem li
    obtain ⟨m, q1, q2⟩ := hg i _ e
    exact ⟨_, m, e, (ord_mem h2).mp (List.mem_of_getElem? e), q1, q2⟩
  have nd : both.Nodup := List.pairwise_iff_getElem.mpr fun i j hi hj hij e => by
    obtain ⟨k1, m1, a1, b1, c1, d1⟩ := get i (by omega)
    obtain ⟨k2, m2, a2, b2, c2, d2⟩ := get j (by omega)
    rw [List.getElem?_eq_getElem hi] at d1
    rw [List.getElem?_eq_getElem hj] at d2
    have e1 : m1 = m2 := by rw [← Option.some.inj d1, ← Option.some.inj d2]; exact e
    rw [e1] at c1
    have e2 := nd_inj (ord_nd h1) c1 c2
    rw [e2] at a1
    have := nd_inj (ord_nd h2) a1 a2
    omega
  have perm : IsOrd both n := ord_of nd (fun x hx => by
    obtain ⟨i, hi⟩ := List.mem_iff_getElem?.mp hx
    obtain ⟨li, _⟩ := List.getElem?_eq_some_iff.mp hi
    obtain ⟨k, m, _, _, c, d⟩ := get i (by omega)
    rw [hi] at d
    cases d
    exact (ord_mem h1).mp (List.mem_of_getElem? c)) hb
  refine ⟨perm, fun k hk => (idx_of nd ?_).symm⟩
  have g1 := at_idx ((ord_mem h1).mpr hk)
  have g2 := at_idx ((ord_mem h2).mpr (idx_lt h1 hk))
  obtain ⟨m, q1, q2⟩ := hg _ _ g2
  rw [g1] at q1
  cases q1
  exact q2
/-! cuts by the pairs' weights -/
theorem sum_add {α : Type} (f g : α → Nat) : ∀ L : List α, (L.map fun p => f p + g p).sum = (L.map f).sum + (L.map g).sum
  | [] => rfl
  | p :: L => by
    have ih := sum_add f g L
    rw [List.map_cons, List.map_cons, List.map_cons, List.sum_cons, List.sum_cons, List.sum_cons, ih]
    omega
theorem sum_zero {α : Type} (f : α → Nat) : ∀ L : List α, (∀ p ∈ L, f p = 0) → (L.map f).sum = 0
  | [], _ => rfl
  | p :: L, h => by
    rw [List.map_cons, List.sum_cons, h p List.mem_cons_self, sum_zero f L fun q hq => h q (List.mem_cons_of_mem _ hq)]
theorem sum_only {α : Type} [DecidableEq α] (f : α → Nat) {e : α} : ∀ {L : List α}, L.Nodup → e ∈ L → (∀ p, p ≠ e → f p = 0) → (L.map f).sum = f e
  | p :: L, nd, he, h => by
    rw [List.map_cons, List.sum_cons]
    by_cases c : p = e
    · subst c
      rw [sum_zero f L fun q hq => h q fun e' => (List.nodup_cons.mp nd).1 (e' ▸ hq)]
      omega
    · rw [h p c, sum_only f (List.nodup_cons.mp nd).2 ((List.mem_cons.mp he).resolve_left fun e' => c e'.symm) h]
      omega
theorem pairs_nd (n : Nat) : (pairsN n).Nodup := (pairsN_pw n).imp fun {a b} h e => by
  subst e
  omega
theorem cut_pairs {n : Nat} (f : Nat → Bool) : ∀ {X : List Arc}, (∀ t ∈ X, arcOk n t) → cutA X f = ((pairsN n).map fun p => wIf (f p.1 != f p.2) (wOf X p)).sum
  | [], _ => by
    rw [sum_zero]
    · rfl
    · intro p _
      show wIf _ 0 = 0
      unfold wIf
      split <;> rfl
  | t :: X, h => by
    obtain ⟨h1, h2, h3⟩ := h t List.mem_cons_self
    have ih := cut_pairs f (X := X) fun u hu => h u (List.mem_cons_of_mem _ hu)
    have e : (fun p : Nat × Nat => wIf (f p.1 != f p.2) (wOf (t :: X) p)) = fun p => wIf (f p.1 != f p.2) (if endsA t = p then t.2.2 else 0) + wIf (f p.1 != f p.2) (wOf X p) := by
      funext p
      rw [wOf_cons]
      unfold wIf
      cases (f p.1 != f p.2) <;> rfl
    rw [cutA_cons, ih, e, sum_add, sum_only (e := endsA t) (fun p => wIf (f p.1 != f p.2) (if endsA t = p then t.2.2 else 0)) (pairs_nd n) (mem_pairsN.mpr ⟨by show min _ _ < max _ _; omega, by show max _ _ < n; omega⟩) fun p hp => by
      show wIf (f p.1 != f p.2) (if endsA t = p then t.2.2 else 0) = 0
      rw [if_neg fun e => hp e.symm]
      unfold wIf
      split <;> rfl]
    congr 1
    show _ = wIf (f (endsA t).1 != f (endsA t).2) (if endsA t = endsA t then t.2.2 else 0)
    rw [if_pos rfl]
    have sy : (f t.1 != f t.2.1) = (f (endsA t).1 != f (endsA t).2) := by
      unfold endsA
      show _ = (f (min t.1 t.2.1) != f (max t.1 t.2.1))
      rcases Nat.lt_or_gt_of_ne h3 with c | c
      · rw [Nat.min_eq_left (by omega), Nat.max_eq_right (by omega)]
      · rw [Nat.min_eq_right (by omega), Nat.max_eq_left (by omega)]
        cases f t.1 <;> cases f t.2.1 <;> rfl
    rw [sy]
theorem cut_sum {n : Nat} {X : List Arc} (h : ∀ t ∈ X, arcOk n t) (f : Nat → Bool) : cutA (sumA n X) f = cutA X f := by
  rw [cut_pairs f (n := n) sumA_ok, cut_pairs f h]
  congr 1
  refine List.map_congr_left fun p hp => ?_
  obtain ⟨h1, h2⟩ := mem_pairsN.mp hp
  rw [wOf_sumA h1 h2]
theorem cut_ren (row : List Nat) (X : List Arc) (f : Nat → Bool) : cutA (X.map (renA row)) f = cutA X fun k => f (row.idxOf k) := by
  unfold cutA
  rw [List.filter_map, List.map_map]
  rfl
/-! sums of powers -/
theorem pow_add_bit {S x : Nat} (h : S.testBit x = false) : 2 ^ x + S = S ||| 2 ^ x := by
  have e := and_split (S ||| 2 ^ x) (2 ^ x)
  have e1 : (S ||| 2 ^ x) &&& 2 ^ x = 2 ^ x := Nat.eq_of_testBit_eq fun j => by
    rw [Nat.testBit_and, Nat.testBit_or]
    cases S.testBit j <;> cases (2 ^ x).testBit j <;> rfl
  have e2 : (S ||| 2 ^ x) &&& ((S ||| 2 ^ x) ^^^ 2 ^ x) = S := Nat.eq_of_testBit_eq fun j => by
    rw [Nat.testBit_and, Nat.testBit_xor, Nat.testBit_or, Nat.testBit_two_pow]
    by_cases c : x = j
    · subst c
      rw [h, decide_eq_true rfl]
      rfl
    · rw [decide_eq_false c]
      cases S.testBit j <;> rfl
  rw [e1, e2] at e
  exact e
theorem pow_bits : ∀ {L : List Nat}, L.Nodup → ∀ j, ((L.map fun x => 2 ^ x).sum).testBit j = decide (j ∈ L)
  | [], _, j => by
    show (0 : Nat).testBit j = _
    rw [Nat.zero_testBit]
    rfl
  | x :: L, nd, j => by
    obtain ⟨h1, h2⟩ := List.nodup_cons.mp nd
    have ih := pow_bits h2
    rw [List.map_cons, List.sum_cons, pow_add_bit (by rw [ih, decide_eq_false h1]), Nat.testBit_or, Nat.testBit_two_pow, ih]
    rw [Bool.eq_iff_iff]
    simp only [Bool.or_eq_true, decide_eq_true_eq, List.mem_cons]
    constructor
    · rintro (h | h)
      · exact .inr h
      · exact .inl h.symm
    · rintro (h | h)
      · exact .inr h.symm
      · exact .inl h
end TW
set_option Elab.async false
set_option linter.all false
set_option maxRecDepth 100000
set_option maxHeartbeats 1000000
namespace TW
open PySem PySem.Spec PyProof.Rows L2
def rowI (row : List Nat) : List Int := row.map fun k : Nat => (k : Int)
theorem rowI_len (row : List Nat) : (rowI row).length = row.length := List.length_map _
theorem rowI_at {row : List Nat} {i k : Nat} (h : row[i]? = some k) : (rowI row)[i]? = some (k : Int) := by
  unfold rowI
  rw [List.getElem?_map, h]
  rfl
theorem rowI_back {row : List Nat} {i k : Nat} (h : (rowI row)[i]? = some (k : Int)) : row[i]? = some k := by
  unfold rowI at h
  rw [List.getElem?_map] at h
  cases e : row[i]? with
  | none => rw [e] at h; cases h
  | some m =>
    rw [e] at h
    have : (m : Int) = (k : Int) := Option.some.inj h
    rw [show m = k by omega]
theorem rowI_first {row : List Nat} (nd : row.Nodup) {i k : Nat} (h : row[i]? = some k) : ∀ m, m < i → (rowI row)[m]? ≠ some (k : Int) := fun m hm e => by
  have := nd_inj nd (rowI_back e) h
  omega
theorem rowI_nd {row : List Nat} (nd : row.Nodup) : (rowI row).Nodup := List.pairwise_map.mpr (nd.imp fun {a b} h e => h (by omega))
theorem rowI_row {row : List Nat} {n : Nat} (h : IsOrd row n) {i : Nat} {x : Int} (hx : (rowI row)[i]? = some x) : ∃ k : Nat, x = k ∧ row[i]? = some k ∧ k < n := by
  unfold rowI at hx
  rw [List.getElem?_map] at hx
  cases e : row[i]? with
  | none => rw [e] at hx; cases hx
  | some m =>
    rw [e] at hx
    exact ⟨m, (Option.some.inj hx).symm, rfl, (ord_mem h).mp (List.mem_of_getElem? e)⟩
theorem at_ren {H : Hp} {u : Addr} {row : List Nat} {t : Arc} (h : H u = some (.tup [.int (row.idxOf t.1 : Nat), .int (row.idxOf t.2.1 : Nat), .int t.2.2])) : At H (.ref u) (arcD (renA row t)) := at_arc (t := renA row t) h
section
variable {P : Program} {w : World} {K : PySem.W.Frag} {mg : Str → Option Value} {base : Heap} {C N : Addr}
/-! check_order -/
abbrev NCO : List Str := ["order", "places", "place"]
def spCheckOrder (K : PySem.W.Frag) : Sp := fun vs H Q _ => ∃ (a : Addr) (row : List Nat) (n : Nat), vs = [.ref a, .int n] ∧ SqT K H a ((rowI row).map V.int) ∧ IsOrd row n ∧ n ≤ 1000 ∧ ∀ H', Ex H H' → Q .non H'
/-! renamed -/
abbrev NRN : List Str := ["web", "order", "low", "high", "weight"]
def spRenamed (C : Addr) : Sp := fun vs H Q _ => ∃ (G : Hp) (l : List (Addr × HO)) (a pa n : Nat) (ts : List Arc) (row : List Nat), vs = [.ref a, .ref pa] ∧ Has G H l ∧ WebAt C G a n ts ∧ TupF G pa ((rowI row).map V.int) ∧ IsOrd row n ∧ (∀ t ∈ ts, arcOk n t) ∧ ts.length ≤ 1000 ∧ 0 < n ∧ n ≤ 100 ∧
  ∀ (G' H' : Hp) (x : Addr), Ex G G' → Has G' H' l → WebAt C G' x n (sumA n (ts.map (renA row))) → Q (.ref x) H'
/-! _law_renamed_arcs -/
abbrev NRA : List Str := ["arcs", "row", "low", "high", "heavy"]
def spRenArcs : Sp := fun vs H Q _ => ∃ (G : Hp) (l : List (Addr × HO)) (a b n : Nat) (xs : List V) (ts : List Arc) (row : List Nat), vs = [.ref a, .ref b] ∧ Has G H l ∧ G a = some (.lst xs) ∧ Ats G xs (ts.map arcD) ∧ G b = some (.lst ((rowI row).map V.int)) ∧ IsOrd row n ∧ (∀ t ∈ ts, arcOk n t) ∧ ts.length ≤ 64 ∧ n ≤ 100 ∧
  ∀ (G' H' : Hp) (u : Addr) (ys : List V), Ex G G' → Has G' H' ((u, .lst ys) :: l) → Ats G' ys ((sumA n (ts.map (renA row))).map arcD) → Q (.ref u) H'
end
end TW
set_option Elab.async false
set_option linter.all false
set_option maxRecDepth 100000
set_option maxHeartbeats 1000000
namespace TW
open PySem PySem.Spec PyProof.Rows L2
/-! two places made one -/
/-- what a place is called when two is joined with one -/
def glN (one two k : Nat) : Nat := if (if k = two then one else k) > two then (if k = two then one else k) - 1 else (if k = two then one else k)
def mapA (g : Nat → Nat) (t : Arc) : Arc := (g t.1, g t.2.1, t.2.2)
theorem gl_lt {n one two k : Nat} (h1 : one < n) (h2 : two < n) (h12 : one ≠ two) (hk : k < n) : glN one two k < n - 1 := by
  unfold glN
  split <;> split <;> omega
theorem gl_eq {n one two a b : Nat} (h12 : one ≠ two) (hab : a ≠ b) : glN one two a = glN one two b ↔ (a = one ∧ b = two) ∨ (a = two ∧ b = one) := by
  unfold glN
  constructor
  · intro h
    repeat' (split at h)
    all_goals omega
  · rintro (⟨rfl, rfl⟩ | ⟨rfl, rfl⟩)
    · rw [if_neg h12, if_pos rfl]
    · rw [if_pos rfl, if_neg h12]
theorem gl_hit {n one two : Nat} (h12 : one ≠ two) {t : Arc} (ht : arcOk n t) : (!hitB one two t) = decide (glN one two t.1 ≠ glN one two t.2.1) := by
  have e := gl_eq (n := n) h12 ht.2.2
  rw [hit_ends h12 ht.2.2]
  have h3 := ht.2.2
  by_cases c : glN one two t.1 = glN one two t.2.1
  · have d := e.mp c
    have x : endsA t = (min one two, max one two) := by
      unfold endsA
      rw [Prod.mk.injEq]
      omega
    rw [decide_eq_true x, decide_eq_false (show ¬ glN one two t.1 ≠ glN one two t.2.1 from fun h => h c)]
    rfl
  · have x : ¬ endsA t = (min one two, max one two) := fun h => by
      unfold endsA at h
      rw [Prod.mk.injEq] at h
      exact c (e.mpr (by omega))
    rw [decide_eq_false x, decide_eq_true (show glN one two t.1 ≠ glN one two t.2.1 from c)]
    rfl
theorem map_oks {n m : Nat} {g : Nat → Nat} (hg : ∀ k, k < n → g k < m) {X : List Arc} (hX : ∀ t ∈ X, arcOk n t) : ∀ t ∈ (X.filter fun t => decide (g t.1 ≠ g t.2.1)).map (mapA g), arcOk m t := fun t ht => by
  obtain ⟨u, hu, rfl⟩ := List.mem_map.mp ht
  obtain ⟨h, d⟩ := List.mem_filter.mp hu
  obtain ⟨h1, h2, h3⟩ := hX u h
  exact ⟨hg _ h1, hg _ h2, of_decide_eq_true d⟩
theorem cut_map (g : Nat → Nat) (X : List Arc) (f : Nat → Bool) : cutA (X.map (mapA g)) f = cutA X fun k => f (g k) := by
  unfold cutA
  rw [List.filter_map, List.map_map]
  rfl
theorem cut_drop (g : Nat → Nat) (X : List Arc) (f : Nat → Bool) : cutA (X.filter fun t => decide (g t.1 ≠ g t.2.1)) (fun k => f (g k)) = cutA X fun k => f (g k) := by
  unfold cutA
  rw [List.filter_filter]
  rw [filt_congr (g := fun t : Arc => f (g t.1) != f (g t.2.1)) fun t _ => ?_]
  by_cases c : g t.1 = g t.2.1
  · show ((f (g t.1) != f (g t.2.1)) && decide (g t.1 ≠ g t.2.1)) = _
    rw [c]
    cases f (g t.2.1) <;> simp
  · rw [decide_eq_true (show g t.1 ≠ g t.2.1 from c), Bool.and_true]
/-- the ties when places are called by g, those within one place left out -/
def gluA (g : Nat → Nat) (X : List Arc) : List Arc := (X.filter fun t => decide (g t.1 ≠ g t.2.1)).map (mapA g)
theorem cut_glu {n m : Nat} {g : Nat → Nat} (hg : ∀ k, k < n → g k < m) {X : List Arc} (hX : ∀ t ∈ X, arcOk n t) (f : Nat → Bool) : cutA (sumA m (gluA g X)) f = cutA X fun k => f (g k) := by
  unfold gluA
  rw [cut_sum (map_oks hg hX), cut_map, cut_drop]
/-- the mask of all places with a called bit -/
def wideL (nm : List Nat) (m : Int) (i : Nat) : List Nat := (List.range i).filter fun k => bitB m (nm.getD k 0)
theorem wide_up (nm : List Nat) (m : Int) (i : Nat) : wideL nm m (i + 1) = wideL nm m i ++ (if bitB m (nm.getD i 0) = true then [i] else []) := by
  unfold wideL
  rw [List.range_succ, List.filter_append]
  congr 1
  by_cases h : bitB m (nm.getD i 0) = true
  · rw [if_pos h, List.filter_cons_of_pos (p := fun k => bitB m (nm.getD k 0)) h]
    rfl
  · rw [if_neg h, List.filter_cons_of_neg (p := fun k => bitB m (nm.getD k 0)) h]
    rfl
theorem wide_len (nm : List Nat) (m : Int) (i : Nat) : (wideL nm m i).length ≤ i := Nat.le_trans (List.length_filter_le _ _) (by rw [List.length_range]; exact Nat.le_refl _)
theorem wide_bit (nm : List Nat) (m : Int) {n j : Nat} (hj : j < n) : bitB (((wideL nm m n).map fun x => 2 ^ x).sum : Nat) j = bitB m (nm.getD j 0) := by
  unfold wideL
  rw [bitW, pow_bits (List.nodup_range.filter _), Bool.eq_iff_iff, decide_eq_true_eq]
  rw [List.mem_filter, List.mem_range]
  exact ⟨fun h => h.2, fun h => ⟨hj, h⟩⟩
theorem cut_wide {n : Nat} {A : List Arc} (hA : ∀ t ∈ A, arcOk n t) (nm : List Nat) (m : Int) : cutA A (bitB (((wideL nm m n).map fun x => 2 ^ x).sum : Nat)) = cutA A fun k => bitB m (nm.getD k 0) := cutA_congrN hA fun k hk => wide_bit nm m hk
end TW
set_option Elab.async false
set_option linter.all false
set_option maxRecDepth 100000
set_option maxHeartbeats 1000000
namespace TW
open PySem PySem.Spec PyProof.Rows L2
theorem Has.sinkG {G H : Hp} {l : List (Addr × HO)} {t : Addr} {u : HO} (h : Has G H ((t, u) :: l)) : ∃ G', Ex G G' ∧ G' t = some u ∧ Has G' H l := ⟨_, h.exS, upd_same, h.sink⟩
theorem Has.newG {G H : Hp} {l : List (Addr × HO)} {t : Addr} {o : HO} (h : Has G H l) (n : H t = none) : ∃ G', Ex G G' ∧ G' t = some o ∧ Has G' (upd H t o) l := (h.new n).sinkG
theorem glu_less {n : Nat} {ts : List Arc} (h : Net n ts) {p q : Nat} (hpq : p ≠ q) : (lessA ts (min p q, max p q)).map (mapA (glN p q)) = gluA (glN p q) ts := by
  unfold gluA lessA
  congr 1
  refine filt_congr fun t ht => ?_
  obtain ⟨h1, h2, h3⟩ := h.ok t ht
  have ok : arcOk n t := ⟨by omega, h2, by omega⟩
  rw [← gl_hit hpq ok, hit_ends hpq ok.2.2]
  have e : endsA t = (t.1, t.2.1) := by
    unfold endsA
    rw [Nat.min_eq_left (by omega), Nat.max_eq_right (by omega)]
  rw [e]
def nmL (p q n : Nat) : List Nat := (List.range n).map (glN p q)
theorem nm_at {p q n k : Nat} (h : k < n) : (nmL p q n)[k]? = some (glN p q k) := by
  unfold nmL
  rw [List.getElem?_map, List.getElem?_range h]
  rfl
theorem nm_up (p q n : Nat) : nmL p q (n + 1) = nmL p q n ++ [glN p q n] := by
  unfold nmL
  rw [List.range_succ, List.map_append]
  rfl
theorem rowI_up (r : List Nat) (x : Nat) : (rowI (r ++ [x])).map V.int = (rowI r).map V.int ++ [V.int (x : Int)] := by
  unfold rowI
  rw [List.map_append, List.map_append]
  rfl
theorem at_map {H : Hp} {u : Addr} {g : Nat → Nat} {t : Arc} (h : H u = some (.tup [.int (g t.1 : Nat), .int (g t.2.1 : Nat), .int t.2.2])) : At H (.ref u) (arcD (mapA g t)) := at_arc (t := mapA g t) h
section
variable {P : Program} {w : World} {K : PySem.W.Frag} {mg : Str → Option Value} {base : Heap} {C N : Addr}
/-! _glued_name -/
abbrev NGN : List Str := ["old", "place", "other_place", "joined"]
def spGlName : Sp := fun vs H Q _ => ∃ k p q : Nat, vs = [.int k, .int p, .int q] ∧ Q (.int (glN p q k : Nat)) H
/-! glued -/
abbrev NGL : List Str := ["web", "place", "other_place", "names", "ties", "old", "low", "high", "weight"]
def spGlued (C : Addr) : Sp := fun vs H Q _ => ∃ (G : Hp) (l : List (Addr × HO)) (a : Addr) (p q n : Nat) (ts : List Arc), vs = [.ref a, .int p, .int q] ∧ Has G H l ∧ WebAt C G a n ts ∧ Net n ts ∧ n ≤ 20 ∧ p < n ∧ q < n ∧ p ≠ q ∧
  ∀ (G' H' : Hp) (x : Addr), Ex G G' → Has G' H' l → WebAt C G' x (n - 1) (sumA (n - 1) (gluA (glN p q) ts)) → Q (.ref x) H'
end
end TW
set_option Elab.async false
set_option linter.all false
set_option maxRecDepth 100000
set_option maxHeartbeats 1000000
namespace TW
open PySem PySem.Spec PyProof.Rows L2
/-- joined, before the names above are lowered -/
def jnN (p q k : Nat) : Nat := if k = q then p else k
theorem gl_jn (p q k : Nat) : ((jnN p q k : Nat) : Int) - (if (decide (jnN p q k > q)) = true then 1 else 0) = (glN p q k : Nat) := by
  unfold glN jnN
  generalize (if k = q then p else k) = j
  by_cases h : j > q
  · rw [decide_eq_true h, if_pos (show true = true from rfl), if_pos h]
    omega
  · rw [decide_eq_false h, if_neg (show ¬ (false = true) by decide), if_neg h]
    omega
def jnL (p q n : Nat) : List Nat := (List.range n).map (jnN p q)
theorem jn_up (p q n : Nat) : jnL p q (n + 1) = jnL p q n ++ [jnN p q n] := by
  unfold jnL
  rw [List.range_succ, List.map_append]
  rfl
theorem jn_at {p q n k x : Nat} (h : (jnL p q n)[k]? = some x) : x = jnN p q k ∧ k < n := by
  unfold jnL at h
  rw [List.getElem?_map] at h
  by_cases c : k < n
  · rw [List.getElem?_range c] at h
    exact ⟨(Option.some.inj h).symm, c⟩
  · rw [List.getElem?_eq_none (by rw [List.length_range]; omega)] at h
    cases h
theorem rowI_get {row : List Nat} {i : Nat} {x : Int} (h : (rowI row)[i]? = some x) : ∃ k : Nat, x = k ∧ row[i]? = some k := by
  unfold rowI at h
  rw [List.getElem?_map] at h
  cases e : row[i]? with
  | none => rw [e] at h; cases h
  | some m =>
    rw [e] at h
    exact ⟨m, (Option.some.inj h).symm, rfl⟩
theorem wide_cast (L : List Nat) : (L.map fun x : Nat => V.int ((1 : Int) * 2 ^ x)) = ((L.map fun x => 2 ^ x).map fun k : Nat => (k : Int)).map V.int := by
  rw [List.map_map, List.map_map]
  refine List.map_congr_left fun x _ => congrArg V.int ?_
  show (1 : Int) * 2 ^ x = ((2 ^ x : Nat) : Int)
  push_cast
  omega
section
variable {P : Program} {w : World} {K : PySem.W.Frag} {mg : Str → Option Value} {base : Heap} {C N : Addr}
/-! _law_new_names -/
abbrev NNN : List Str := ["many", "one", "two", "row", "k"]
def spNewNames : Sp := fun vs H Q _ => ∃ (G : Hp) (l : List (Addr × HO)) (n p q : Nat), vs = [.int n, .int p, .int q] ∧ Has G H l ∧ n ≤ 100 ∧
  ∀ (H' : Hp) (t : Addr), Has G H' ((t, .lst ((rowI (nmL p q n)).map V.int)) :: l) → Q (.ref t) H'
end
end TW
set_option Elab.async false
set_option linter.all false
set_option maxRecDepth 100000
set_option maxHeartbeats 1000000
/-! a + b of an own class; walks over a list or a tuple; a dict made by a comprehension -/
namespace TW
open PySem PySem.Spec PyProof.Rows L2
def rAddOwn (C : Addr) (sp : Sp) : R2 := fun x y H Q => ∃ a b dx dy fs gs, x = .ref a ∧ y = .ref b ∧ H a = some (.ins C dx fs) ∧ H b = some (.ins C dy gs) ∧ sp [.ref a, .ref b] H (fun z H' => ∃ c, z = .ref c ∧ Q (.ref c) H') E0
section
variable {X : Cx} {k : Nat} {C f : Addr} {fd : FuncData} {sp : Sp}
theorem op_addOwn (hc : PySem.W.selfFirst X.K C = true) (hs : PySem.W.findIn X.K (.ref C) "__add__" = some (some (.ref f))) (hf : PySem.W.isFn X.K (.ref f) = true) (F : FnOk X.prog X.w X.K X.mg X.base CX0 k f fd ["self", "other"] sp)
    (hb : Binds X.K fd ["self", "other"] []) (hr : Room k X.A) : OpR X (binaryOp .Add) (rAddOwn C sp) := by
  intro pins s σ H x y v u Q I rx ry h
  obtain ⟨a, b, dx, dy, fs, gs, rfl, rfl, ha, hb', q⟩ := h
  cases (show v = Value.ref a from rx)
  cases (show u = Value.ref b from ry)
  obtain ⟨mA, J, _⟩ := ins_get I.hok ha
  obtain ⟨mB, J', _⟩ := ins_get I.hok hb'
  obtain ⟨od, J, _⟩ := J.look
  obtain ⟨od', J', _⟩ := J'.look
  obtain ⟨m, hF⟩ := I.fr
  refine PySem.W.binop_K hF I.ok.mod.kin J J'.type hc hs hf ?_
  refine wpAny_call (codeAny_mono (F.run X.A X.stack s H ⟨[.ref a, .ref b], []⟩ [.ref a, .ref b] [.ref a, .ref b] _ E0 hr I.env0 (hb _ [.ref a, .ref b] I.kIn rfl) (.cons rfl (.cons rfl .nil)) q) fun r s' hq => ?_)
  cases r with
  | error er => exact False.elim hq
  | ok fl =>
    cases fl with
    | ret w =>
      obtain ⟨z, H', I3, rz, t, rfl, q3⟩ := I.after hq
      obtain rfl : w = Value.ref t := rz
      exact ⟨.ref t, H', I3, rfl, q3⟩
    | next => exact False.elim hq
    | brk => exact False.elim hq
    | cont => exact False.elim hq
end
theorem pe_fldK {X : Cx} {K : PySem.W.Frag} {e : Expr} {f : Str} {pos : Pos} {ta : TE} (he : PE X e ta) (hb : attributeBase e f X.env (eval e X.env) = eval e X.env) (h : X.K = K := by rfl) : PE X (.Attribute e f pos) (tFld K ta f) := by
  subst h
  exact pe_fld he hb
/-! a list or a tuple walked -/
def iAny (K : PySem.W.Frag) (tl : TE) : L2.TI := fun σ H R => tl σ H fun x H1 => ∃ a, x = .ref a ∧ (((∃ xs, SqL K H1 a xs) ∧ R (Itl K a) H1) ∨ ((∃ xs, SqT K H1 a xs) ∧ R (Itt K a) H1))
theorem pi_any {X : Cx} {K : PySem.W.Frag} {tg l : Expr} {tl : TE} (hl : PE X l tl) (h : X.K = K := by rfl) : PI X tg l (iAny K tl) := by
  subst h
  refine ⟨fun pins s σ H R I h => ?_⟩
  refine thn (hl.run pins s σ H _ I h) fun v s1 ⟨x, H1, I1, r1, q1⟩ => ?_
  obtain ⟨a, e, q1⟩ := q1
  subst e
  cases r1
  rcases q1 with ⟨⟨xs, hq⟩, q⟩ | ⟨⟨xs, hq⟩, q⟩
  · obtain ⟨its, rv, p, hz⟩ := I1.list hq
    refine wpAny_pyIter_list p.isList ?_
    refine ⟨s1.heap.objs.size, [s1.heap.objs.size], _, _, H1, rfl, I1.kept (t' := s1.toks) fun b o e => Heap.get?_push_of_some _ e, turn_list a _, ⟨_, Heap.get?_push_size _ rfl, rfl, rfl⟩, fun b hb => ?_, q⟩
    have e : b = s1.heap.objs.size := by simpa using hb
    subst e
    exact I1.fpOk (Nat.le_refl _) (I1.hok.fresh (Nat.le_refl _))
  · obtain ⟨its, rv, p, hz⟩ := I1.tuple hq
    refine wpAny_pyIter_tuple (show s1.heap.IsTuple a its.toArray from p) ?_
    refine ⟨s1.heap.objs.size, [s1.heap.objs.size], _, _, H1, rfl, I1.kept (t' := s1.toks) fun b o e => Heap.get?_push_of_some _ e, turn_tuple a _, ⟨_, Heap.get?_push_size _ rfl, rfl, rfl⟩, fun b hb => ?_, q⟩
    have e : b = s1.heap.objs.size := by simpa using hb
    subst e
    exact I1.fpOk (Nat.le_refl _) (I1.hok.fresh (Nat.le_refl _))
/-! a dict made by a comprehension -/
section
variable {J : It} {n : Nat} {G : Hp → Prop} {Y : Nat → Hp → V → Hp → Prop}
theorem dc_it (w : Walk J n G Y) {g : L2.TG} {tt : TT} {tk tv : TE} {vs : List Nat} {σ : L2.St} {H1 : Hp} {D : Addr} {Qd : Hp → Prop} (Pv : Nat → Hp → Prop) (h0 : Pv 0 (upd H1 D (.dK []))) (hG : ∀ i H, i ≤ n → Pv i H → G H)
    (hs : ∀ i x H H', i < n → Pv i H → Y i H x H' → g x (wipe σ vs) H' fun σ2 H2 => wipe σ2 vs = wipe σ vs ∧ tt σ2 H2 fun b H3 =>
      if b = true then tk σ2 H3 fun y H4 => tv σ2 H4 fun z H5 => ∃ kvs k, y = kV k ∧ H5 D = some (.dK kvs) ∧ kvs.length < sizeLine ∧ Pv (i + 1) (upd H5 D (.dK (putK kvs k z))) else Pv (i + 1) H3) (hd : ∀ H, Pv n H → Qd H) :
    ∃ W : Nat → Nat → Hp → Prop, (∃ m, W 0 m (upd H1 D (.dK []))) ∧ ∀ i m H, W i m H →
      (J.stop i H ∧ Qd H) ∨ (J.go i H ∧ ∃ Nx : Hp → Prop, (∀ H', Nx H' → ∃ m', m' < m ∧ W (i + 1) m' H') ∧ ∀ x H', J.yld i H x H' → g x (wipe σ vs) H' fun σ2 H2 => wipe σ2 vs = wipe σ vs ∧ tt σ2 H2 fun b H3 =>
        if b = true then tk σ2 H3 fun y H4 => tv σ2 H4 fun z H5 => ∃ kvs k, y = kV k ∧ H5 D = some (.dK kvs) ∧ kvs.length < sizeLine ∧ Nx (upd H5 D (.dK (putK kvs k z))) else Nx H3) := by
  refine ⟨fun i m H => m = n - i ∧ i ≤ n ∧ Pv i H, ⟨n, by simp, Nat.zero_le _, h0⟩, ?_⟩
  rintro i m H ⟨rfl, hi, p⟩
  have q := hG i H hi p
  by_cases hlt : i < n
  · exact .inr ⟨w.goes i H hlt q, Pv (i + 1), fun H' p' => ⟨n - (i + 1), by omega, rfl, hlt, p'⟩, fun x H' y => hs i x H H' hlt p (w.yields i H x H' hlt q y)⟩
  · have e : i = n := by omega
    subst e
    exact .inl ⟨w.stops H q, hd H p⟩
end
section
variable {X : Cx}
theorem ps_setDc {i : Nat} {y : Str} {py : Pos} {kx vx tg iter : Expr} {ifs : List Expr} {scope : Scope} {own : List (Str × Nat)} {pos spos : Pos} {wi : L2.TI} {g : L2.TG} {tt : TT} {tk tv : TE} (hc : X.calm = true) (hN : X.N.Nodup) (hy : X.N[i]? = some y) (hyl : X.env.scope.names.lookup y = some .local)
    (hsw : swapsWith (.DictComp kx vx [⟨tg, iter, ifs, 0⟩] scope pos) (some (.Name y py)) spos.line X.env = pure true) (hi : PI X tg iter wi) (ok : BlkOk X.N X.env.scope scope own)
    (hg : ∀ (s : Shared) (H : Hp) (C : Addr) (cl : List (Str × Addr)) (fp : List Addr), PG (X.blk s H scope (compEnvC scope cl C X.env) fp) tg g) (ht : ∀ (s : Shared) (H : Hp) (C : Addr) (cl : List (Str × Addr)) (fp : List Addr), PTs (X.blk s H scope (compEnvC scope cl C X.env) fp) ifs tt)
    (hk : ∀ (s : Shared) (H : Hp) (C : Addr) (cl : List (Str × Addr)) (fp : List Addr), PE (X.blk s H scope (compEnvC scope cl C X.env) fp) kx tk)
    (he : ∀ (s : Shared) (H : Hp) (C : Addr) (cl : List (Str × Addr)) (fp : List Addr), PE (X.blk s H scope (compEnvC scope cl C X.env) fp) vx tv) (hs : ∀ x, foldedSetIterable iter X.env x = pure x := by intro _; rfl) :
    PS X (.Assign [.Name y py] (.DictComp kx vx [⟨tg, iter, ifs, 0⟩] scope pos) spos) (tAsg (tDc wi g tt tk tv (own.map (·.2))) (gName i)) := by
  refine ⟨fun pins s σ H D I h => ?_⟩
  rw [exec_Assign_Name_used _ _ _ _ hsw]
  refine wpAny_bind (wpAny_standAt (wpAny_bind ?_))
  show wpAny _ X.A (do let _ ← comprehension (.DictComp kx vx [⟨tg, iter, ifs, 0⟩] scope pos) scope X.env (firstIterPos [⟨tg, iter, ifs, 0⟩] pos) newDict false (eval iter X.env) (some (assign (.Name y py) X.env))) _ _ s
  have h : tDc wi g tt tk tv (own.map (·.2)) σ H (fun x H1 => gName i x σ H1 D.nx) := h
  refine wpAny_bind (thn (dc_core (Qf := fun _ s' => SP X pins D .next s') hc hN I hi ok hg ht hk he hs h fun L C s' m H' I' q hn f => ?_) fun _ s' hq => wpAny_pure (wpAny_pure hq))
  show wpAny _ _ (assign (.Name y py) X.env (.ref L)) _ _ _
  refine wpAny_assign_Name (store_ok2 (v := V.ref L) I' hN hy (.inl hyl) rfl (fun s2 I2 ⟨a, sb, ha⟩ => ?_) (.inr hyl))
  obtain ⟨f0, f1, f2, f3, f4, f5⟩ := f
  have haC : C ≠ a := by
    rcases ha with z | z
    · rw [z]; exact f1
    · exact fun e => f4 y a z e.symm
  refine ⟨m, hn.sameBut sb haC, fun h3 sb3 => ?_⟩
  exact ⟨_, H', I2.turned (t' := s2.toks) (fun b o hb e => (sb3.2 b hb).trans e) f0 f1 f3 f4 f5, q⟩
theorem sw_trueD {kx vx : Expr} {gs : List Comprehension} {scope : Scope} {pos py : Pos} {y : Str} {l : Nat} {env : Env} (hk : env.scope.kind = .function) (hy : env.scope.names.lookup y = some .local) (hl : (py.line == pos.line) = true)
    (ha : (scope.names.any fun (n, k) => n == y && (k == .local || k == .cell)) = false) : swapsWith (.DictComp kx vx gs scope pos) (some (.Name y py)) l env = pure true := by
  have ky : env.kindOf y = some .local := hy
  have hb : env.blockKind = .function := by unfold Env.blockKind; rw [hk]; rfl
  unfold swapsWith
  simp only [hb, ky, ha, Expr.pos, hl]
  rfl
end
/-! the slots of a comprehension's own names, wiped again -/
theorem wipe1 (σ : L2.St) (i : Nat) (a : Option V) : wipe ((wipe σ [i]).set i a) [i] = wipe σ [i] := by
  show (((σ.set i none).set i a).set i none) = σ.set i none
  rw [List.set_set, List.set_set]
theorem wipe3 (σ : L2.St) (i j k : Nat) (a b c : Option V) : wipe ((((wipe σ [i, j, k]).set i a).set j b).set k c) [i, j, k] = wipe σ [i, j, k] := by
  show ((((((((σ.set k none).set j none).set i none).set i a).set j b).set k c).set k none).set j none).set i none = ((σ.set k none).set j none).set i none
  refine List.ext_getElem? fun m => ?_
  simp only [List.getElem?_set, List.length_set]
  by_cases h1 : i = m <;> by_cases h2 : j = m <;> by_cases h3 : k = m <;> simp [h1, h2, h3]
end TW
set_option Elab.async false
set_option linter.all false
set_option maxRecDepth 100000
set_option maxHeartbeats 1000000
namespace TW
open PySem PySem.Spec PyProof.Rows L2
/-! rows of places with room from each to the next -/
inductive Rch (n : Nat) (M : Nat → Nat → Int) (u : Nat) : Nat → Prop
  | refl : u < n → Rch n M u u
  | step {v x : Nat} : Rch n M u v → x < n → 0 < M v x → Rch n M u x
section
variable {n : Nat} {M : Nat → Nat → Int} {u v x : Nat} {S : List Nat}
theorem Rch.l (h : Rch n M u v) : u < n := by
  induction h with
  | refl h => exact h
  | step _ _ _ ih => exact ih
theorem Rch.r (h : Rch n M u v) : v < n := by
  cases h with
  | refl h => exact h
  | step _ h _ => exact h
theorem Rch.trans (h1 : Rch n M u v) (h2 : Rch n M v x) : Rch n M u x := by
  induction h2 with
  | refl _ => exact h1
  | step _ hx hm ih => exact .step ih hx hm
theorem Rch.one (h1 : u < n) (h2 : v < n) (h : 0 < M u v) : Rch n M u v := .step (.refl h1) h2 h
theorem Rch.symm (sy : ∀ a b, M a b = M b a) (h : Rch n M u v) : Rch n M v u := by
  induction h with
  | refl h => exact .refl h
  | step h1 hx hm ih => exact (Rch.one hx h1.r (by rw [sy]; exact hm)).trans ih
/-- places found, each with the one ahead of it -/
inductive Way (n : Nat) (M : Nat → Nat → Int) (S : List Nat) : List (Nat × Option Nat) → Prop
  | nil : Way n M S []
  | start {ks : List (Nat × Option Nat)} {s : Nat} : Way n M S ks → s ∈ S → s ∉ ks.map (·.1) → Way n M S (ks ++ [(s, none)])
  | step {ks : List (Nat × Option Nat)} {u v : Nat} : Way n M S ks → u ∈ ks.map (·.1) → v < n → v ∉ ks.map (·.1) → 0 < M u v → Way n M S (ks ++ [(v, some u)])
theorem nd_snoc {l : List (Nat × Option Nat)} {e : Nat × Option Nat} (h : (l.map (·.1)).Nodup) (he : e.1 ∉ l.map (·.1)) : ((l ++ [e]).map (·.1)).Nodup := by
  rw [List.map_append]
  refine List.nodup_append.mpr ⟨h, by simp, fun a ha b hb e2 => ?_⟩
  rw [List.map_cons, List.map_nil, List.mem_singleton] at hb
  rw [hb] at e2
  exact he (e2 ▸ ha)
theorem mem_snoc {l : List (Nat × Option Nat)} {e : Nat × Option Nat} {k : Nat} : k ∈ (l ++ [e]).map (·.1) ↔ k ∈ l.map (·.1) ∨ k = e.1 := by
  rw [List.map_append, List.mem_append, List.map_cons, List.map_nil, List.mem_singleton]
theorem Way.nd {ks : List (Nat × Option Nat)} (h : Way n M S ks) : (ks.map (·.1)).Nodup := by
  induction h with
  | nil => exact List.Pairwise.nil
  | start _ _ h ih => exact nd_snoc ih h
  | step _ _ _ h _ ih => exact nd_snoc ih h
theorem Way.lt (hS : ∀ s ∈ S, s < n) {ks : List (Nat × Option Nat)} (h : Way n M S ks) : ∀ k ∈ ks.map (·.1), k < n := by
  induction h with
  | nil => exact fun k h => absurd h List.not_mem_nil
  | start _ h _ ih =>
    intro k hk
    rcases mem_snoc.mp hk with q | q
    · exact ih k q
    · rw [q]; exact hS _ h
  | step _ _ h _ _ ih =>
    intro k hk
    rcases mem_snoc.mp hk with q | q
    · exact ih k q
    · rw [q]; exact h
theorem Way.len (hS : ∀ s ∈ S, s < n) {ks : List (Nat × Option Nat)} (h : Way n M S ks) : ks.length ≤ n := by
  have := nodup_lenG h.nd (ys := List.range n) fun k hk => List.mem_range.mpr (h.lt hS k hk)
  rw [List.length_map, List.length_range] at this
  exact this
theorem Way.rch (hS : ∀ s ∈ S, s < n) {ks : List (Nat × Option Nat)} (h : Way n M S ks) : ∀ k ∈ ks.map (·.1), ∃ s ∈ S, Rch n M s k := by
  induction h with
  | nil => exact fun k h => absurd h List.not_mem_nil
  | start _ h _ ih =>
    intro k hk
    rcases mem_snoc.mp hk with q | q
    · exact ih k q
    · rw [q]; exact ⟨_, h, .refl (hS _ h)⟩
  | step _ hu h _ hm ih =>
    intro k hk
    rcases mem_snoc.mp hk with q | q
    · exact ih k q
    · obtain ⟨s, hs, r⟩ := ih _ hu
      rw [q]; exact ⟨s, hs, r.step h hm⟩
/-- all that can be reached -/
structure FullW (n : Nat) (M : Nat → Nat → Int) (S : List Nat) (ks : List (Nat × Option Nat)) : Prop where
  way : Way n M S ks
  all : ∀ s ∈ S, s ∈ ks.map (·.1)
  shut : ∀ u ∈ ks.map (·.1), ∀ v, v < n → 0 < M u v → v ∈ ks.map (·.1)
theorem FullW.mem {ks : List (Nat × Option Nat)} (h : FullW n M S ks) (hS : ∀ s ∈ S, s < n) (k : Nat) : k ∈ ks.map (·.1) ↔ ∃ s ∈ S, Rch n M s k := by
  have key : ∀ s, s ∈ S → ∀ k, Rch n M s k → k ∈ ks.map (·.1) := fun s hs k r => by
    induction r with
    | refl _ => exact h.all s hs
    | step _ hx hm ih => exact h.shut _ ih _ hx hm
  exact ⟨h.way.rch hS k, fun ⟨s, hs, r⟩ => key s hs k r⟩
open Classical in
theorem full_ex (hS : ∀ s ∈ S, s < n) : ∀ (m : Nat) {ks : List (Nat × Option Nat)}, n - ks.length = m → Way n M S ks → (∀ s ∈ S, s ∈ ks.map (·.1)) → ∃ ks, FullW n M S ks := by
  intro m
  induction m with
  | zero =>
    intro ks hm w ha
    refine ⟨ks, w, ha, fun u hu v hv hM => ?_⟩
    by_cases c : v ∈ ks.map (·.1)
    · exact c
    · have := (w.step hu hv c hM).len hS
      rw [List.length_append] at this
      have e : [(v, some u)].length = 1 := rfl
      omega
  | succ m ih =>
    intro ks hm w ha
    by_cases c : ∃ u v, u ∈ ks.map (·.1) ∧ v < n ∧ v ∉ ks.map (·.1) ∧ 0 < M u v
    · obtain ⟨u, v, hu, hv, hn, hM⟩ := c
      refine ih (ks := ks ++ [(v, some u)]) ?_ (w.step hu hv hn hM) fun s hs => mem_snoc.mpr (.inl (ha s hs))
      rw [List.length_append]
      show n - (ks.length + 1) = m
      omega
    · refine ⟨ks, w, ha, fun u hu v hv hM => ?_⟩
      by_cases d : v ∈ ks.map (·.1)
      · exact d
      · exact absurd ⟨u, v, hu, hv, d, hM⟩ c
/-! how far -/
inductive RchL (n : Nat) (M : Nat → Nat → Int) (u : Nat) : Nat → Nat → Prop
  | refl : u < n → RchL n M u 0 u
  | step {d v x : Nat} : RchL n M u d v → x < n → 0 < M v x → RchL n M u (d + 1) x
theorem RchL.r {d : Nat} (h : RchL n M u d v) : v < n := by
  cases h with
  | refl h => exact h
  | step _ h _ => exact h
theorem way_far {ks : List (Nat × Option Nat)} (hu : u < n) (h : Way n M [u] ks) : ∀ i e, ks[i]? = some e → ∃ d, d ≤ i ∧ RchL n M u d e.1 := by
  induction h with
  | nil => exact fun i e h => nomatch h
  | start _ h _ ih =>
    intro i e he
    rw [List.getElem?_append] at he
    split at he
    · exact ih i e he
    · rename_i c
      have q : e = (_, none) := List.mem_singleton.mp (List.mem_of_getElem? he)
      rw [List.mem_singleton] at h
      rw [q, h]
      exact ⟨0, Nat.zero_le _, .refl hu⟩
  | step _ hk hv _ hM ih =>
    intro i e he
    rw [List.getElem?_append] at he
    split at he
    · exact ih i e he
    · rename_i c
      have q : e = (_, some _) := List.mem_singleton.mp (List.mem_of_getElem? he)
      obtain ⟨e2, h2, e3⟩ := List.mem_map.mp hk
      obtain ⟨j, hj⟩ := List.mem_iff_getElem?.mp h2
      obtain ⟨d, hd, r⟩ := ih j e2 hj
      have lj := (List.getElem?_eq_some_iff.mp hj).1
      rw [q]
      rw [e3] at r
      exact ⟨d + 1, by omega, r.step hv hM⟩
theorem rch_far (h : Rch n M u v) : ∃ d, d < n ∧ RchL n M u d v := by
  have hu := h.l
  have hS : ∀ s ∈ [u], s < n := fun s hs => by rw [List.mem_singleton.mp hs]; exact hu
  obtain ⟨ks, F⟩ := full_ex (M := M) hS _ rfl ((Way.nil (n := n) (M := M) (S := [u])).start List.mem_cons_self List.not_mem_nil) fun s hs => by rw [List.mem_singleton.mp hs]; exact List.mem_cons_self
  obtain ⟨e, he, e2⟩ := List.mem_map.mp ((F.mem hS v).mpr ⟨u, List.mem_cons_self, h⟩)
  obtain ⟨i, hi⟩ := List.mem_iff_getElem?.mp he
  obtain ⟨d, hd, r⟩ := way_far hu F.way i e hi
  have li := (List.getElem?_eq_some_iff.mp hi).1
  have ln := F.way.len hS
  rw [e2] at r
  exact ⟨d, by omega, r⟩
end
/-! what ties join -/
def conM (ts : List Arc) (a b : Nat) : Int := (wOf ts (min a b, max a b) : Nat)
theorem conM_symm (ts : List Arc) (a b : Nat) : conM ts a b = conM ts b a := by
  unfold conM
  rw [Nat.min_comm, Nat.max_comm]
theorem wOf_mem {ts : List Arc} {t : Arc} (h : t ∈ ts) : t.2.2 ≤ wOf ts (endsA t) := by
  induction ts with
  | nil => exact absurd h List.not_mem_nil
  | cons s ts ih =>
    rw [wOf_cons]
    rcases List.mem_cons.mp h with e | e
    · rw [← e, if_pos rfl]
      omega
    · have := ih e
      omega
theorem wOf_some {ts : List Arc} {p : Nat × Nat} (h : 0 < wOf ts p) : ∃ t ∈ ts, endsA t = p := Decidable.byContradiction fun c => by
  have := wOf_none (ts := ts) (p := p) fun t ht e => c ⟨t, ht, e⟩
  omega
/-- of each place the least one that hangs together with it -/
structure HdOk (n : Nat) (ts : List Arc) (h : Nat → Nat) : Prop where
  rch : ∀ k, k < n → Rch n (conM ts) k (h k)
  low : ∀ k j, k < n → Rch n (conM ts) k j → h k ≤ j
section
variable {n : Nat} {ts : List Arc} {h : Nat → Nat}
theorem HdOk.lt (H : HdOk n ts h) {k : Nat} (hk : k < n) : h k < n := (H.rch k hk).r
theorem HdOk.le (H : HdOk n ts h) {k : Nat} (hk : k < n) : h k ≤ k := H.low k k hk (.refl hk)
theorem HdOk.eq_iff (H : HdOk n ts h) {j k : Nat} (hj : j < n) (hk : k < n) : h j = h k ↔ Rch n (conM ts) j k := by
  constructor
  · intro e
    have a := H.rch j hj
    rw [e] at a
    exact a.trans ((H.rch k hk).symm (conM_symm ts))
  · intro r
    have a := H.low j _ hj (r.trans (H.rch k hk))
    have b := H.low k _ hk ((r.symm (conM_symm ts)).trans (H.rch j hj))
    omega
theorem HdOk.twice (H : HdOk n ts h) {k : Nat} (hk : k < n) : h (h k) = h k := (H.eq_iff (H.lt hk) hk).mpr ((H.rch k hk).symm (conM_symm ts))
theorem HdOk.ext {h2 : Nat → Nat} (H : HdOk n ts h) (H2 : HdOk n ts h2) {k : Nat} (hk : k < n) : h k = h2 k := by
  have a := H.low k _ hk (H2.rch k hk)
  have b := H2.low k _ hk (H.rch k hk)
  omega
/-! the law's way to it -/
def joinF (h : Nat → Nat) (t : Arc) : Nat → Nat := fun k => if k = t.1 ∨ k = t.2.1 then min (h t.1) (h t.2.1) else h k
def roundF (h : Nat → Nat) (ts : List Arc) : Nat → Nat := ts.foldl joinF h
def roundsF (ts : List Arc) : Nat → Nat → Nat
  | 0 => fun k => k
  | i + 1 => roundF (roundsF ts i) ts
theorem joinF_le (h : Nat → Nat) (t : Arc) (k : Nat) : joinF h t k ≤ h k := by
  unfold joinF
  split
  · rename_i c
    rcases c with c | c
    · rw [c]; omega
    · rw [c]; omega
  · exact Nat.le_refl _
theorem roundF_le : ∀ (ts : List Arc) (h : Nat → Nat) (k : Nat), roundF h ts k ≤ h k
  | [], _, _ => Nat.le_refl _
  | t :: ts, h, k => Nat.le_trans (roundF_le ts (joinF h t) k) (joinF_le h t k)
theorem roundF_hit : ∀ {ts : List Arc} {t : Arc} (h : Nat → Nat), t ∈ ts → roundF h ts t.1 ≤ h t.2.1 ∧ roundF h ts t.2.1 ≤ h t.1
  | s :: ts, t, h, hm => by
    rcases List.mem_cons.mp hm with e | e
    · subst e
      have a := roundF_le ts (joinF h t) t.1
      have b := roundF_le ts (joinF h t) t.2.1
      have c : joinF h t t.1 = min (h t.1) (h t.2.1) := if_pos (.inl rfl)
      have d : joinF h t t.2.1 = min (h t.1) (h t.2.1) := if_pos (.inr rfl)
      show roundF (joinF h t) ts t.1 ≤ _ ∧ roundF (joinF h t) ts t.2.1 ≤ _
      omega
    · have a := roundF_hit (joinF h s) e
      have b := joinF_le h s t.1
      have c := joinF_le h s t.2.1
      show roundF (joinF h s) ts t.1 ≤ _ ∧ roundF (joinF h s) ts t.2.1 ≤ _
      omega
theorem tie_room (ok : ∀ t ∈ ts, arcOk n t) (pos : ∀ t ∈ ts, 0 < t.2.2) {t : Arc} (ht : t ∈ ts) : 0 < conM ts t.1 t.2.1 := by
  have a := wOf_mem ht
  have b := pos t ht
  unfold conM
  unfold endsA at a
  omega
theorem joinF_rch (ok : ∀ t ∈ ts, arcOk n t) (pos : ∀ t ∈ ts, 0 < t.2.2) {t : Arc} (ht : t ∈ ts) (hr : ∀ k, k < n → Rch n (conM ts) k (h k)) : ∀ k, k < n → Rch n (conM ts) k (joinF h t k) := fun k hk => by
  obtain ⟨h1, h2, h3⟩ := ok t ht
  have room := tie_room ok pos ht
  have r12 : Rch n (conM ts) t.1 t.2.1 := .one h1 h2 room
  have r21 := r12.symm (conM_symm ts)
  unfold joinF
  split
  · rename_i c
    have both : Rch n (conM ts) k t.1 ∧ Rch n (conM ts) k t.2.1 := by
      rcases c with c | c
      · rw [c]; exact ⟨.refl h1, r12⟩
      · rw [c]; exact ⟨r21, .refl h2⟩
    rcases Nat.le_total (h t.1) (h t.2.1) with d | d
    · rw [Nat.min_eq_left d]
      exact both.1.trans (hr _ h1)
    · rw [Nat.min_eq_right d]
      exact both.2.trans (hr _ h2)
  · exact hr k hk
theorem roundF_rch (ok : ∀ t ∈ ts, arcOk n t) (pos : ∀ t ∈ ts, 0 < t.2.2) : ∀ (us : List Arc) (h : Nat → Nat), (∀ t ∈ us, t ∈ ts) → (∀ k, k < n → Rch n (conM ts) k (h k)) → ∀ k, k < n → Rch n (conM ts) k (roundF h us k)
  | [], _, _, hr => hr
  | t :: us, h, hs, hr => roundF_rch ok pos us (joinF h t) (fun s hm => hs s (List.mem_cons_of_mem _ hm)) (joinF_rch ok pos (hs t List.mem_cons_self) hr)
theorem roundsF_rch (ok : ∀ t ∈ ts, arcOk n t) (pos : ∀ t ∈ ts, 0 < t.2.2) : ∀ i, ∀ k, k < n → Rch n (conM ts) k (roundsF ts i k)
  | 0 => fun k hk => .refl hk
  | i + 1 => roundF_rch ok pos ts (roundsF ts i) (fun _ h => h) (roundsF_rch ok pos i)
theorem roundsF_far : ∀ (i d m k : Nat), d ≤ i → RchL n (conM ts) m d k → roundsF ts i k ≤ m
  | 0, d, m, k, hd, r => by
    cases r with
    | refl _ => exact Nat.le_refl _
    | step _ _ _ => omega
  | i + 1, d, m, k, hd, r => by
    have mono : roundsF ts (i + 1) k ≤ roundsF ts i k := roundF_le ts _ k
    cases r with
    | refl hm => exact Nat.le_trans mono (roundsF_far i 0 m _ (Nat.zero_le _) (.refl hm))
    | step r hx hM =>
      rename_i d v
      have ih := roundsF_far i d m v (by omega) r
      have w : 0 < wOf ts (min v k, max v k) := by
        have : conM ts v k = (wOf ts (min v k, max v k) : Nat) := rfl
        omega
      obtain ⟨t, ht, e⟩ := wOf_some w
      have hit := roundF_hit (roundsF ts i) ht
      have e1 : roundsF ts (i + 1) = roundF (roundsF ts i) ts := rfl
      rw [e1]
      rw [e1] at mono
      unfold endsA at e
      rw [Prod.mk.injEq] at e
      have : (t.1 = v ∧ t.2.1 = k) ∨ (t.1 = k ∧ t.2.1 = v) := by omega
      rcases this with ⟨p, q⟩ | ⟨p, q⟩
      · rw [p, q] at hit
        omega
      · rw [p, q] at hit
        omega
theorem heads_ok (ok : ∀ t ∈ ts, arcOk n t) (pos : ∀ t ∈ ts, 0 < t.2.2) : HdOk n ts (roundsF ts n) := ⟨roundsF_rch ok pos n, fun k j hk r => by
  obtain ⟨d, hd, r2⟩ := rch_far (r.symm (conM_symm ts))
  exact roundsF_far n d j k (by omega) r2⟩
end
end TW
set_option Elab.async false
set_option linter.all false
set_option maxRecDepth 100000
set_option maxHeartbeats 1000000
namespace TW
open PySem PySem.Spec PyProof.Rows L2
/-! rooms: a list of rows -/
def rowM (M : Nat → Nat → Int) (n i : Nat) : List Int := (List.range n).map (M i)
theorem rowM_len (M : Nat → Nat → Int) (n i : Nat) : (rowM M n i).length = n := by
  unfold rowM
  rw [List.length_map, List.length_range]
theorem rowM_at {M : Nat → Nat → Int} {n i j : Nat} (h : j < n) : ((rowM M n i).map V.int)[j]? = some (V.int (M i j)) := by
  unfold rowM
  rw [List.getElem?_map, List.getElem?_map, List.getElem?_range h]
  rfl
def refsA (as : List Addr) : List V := as.map V.ref
/-- rooms that can be read -/
def RoomsAt (H : Hp) (R : Addr) (n : Nat) (M : Nat → Nat → Int) : Prop := ∃ as : List Addr, H R = some (.lst (refsA as)) ∧ as.length = n ∧ ∀ i a, as[i]? = some a → H a = some (.lst ((rowM M n i).map V.int))
theorem RoomsAt.ex {H H' : Hp} {R : Addr} {n : Nat} {M : Nat → Nat → Int} (h : RoomsAt H R n M) (e : Ex H H') : RoomsAt H' R n M := by
  obtain ⟨as, h1, h2, h3⟩ := h
  exact ⟨as, e _ _ h1, h2, fun i a ha => e _ _ (h3 i a ha)⟩
theorem RoomsAt.get {H : Hp} {R : Addr} {n : Nat} {M : Nat → Nat → Int} (h : RoomsAt H R n M) {i : Nat} (hi : i < n) : ∃ (as : List Addr) (a : Addr), H R = some (.lst (refsA as)) ∧ (refsA as).length = n ∧ (refsA as)[i]? = some (.ref a) ∧ H a = some (.lst ((rowM M n i).map V.int)) := by
  obtain ⟨as, h1, h2, h3⟩ := h
  have ha : as[i]? = some as[i] := List.getElem?_eq_getElem (by omega)
  refine ⟨as, as[i], h1, by unfold refsA; rw [List.length_map]; exact h2, ?_, h3 i _ ha⟩
  unfold refsA
  rw [List.getElem?_map, ha]
  rfl
/-- rooms among the cells -/
def rowsC (as : List Addr) (M : Nat → Nat → Int) (n : Nat) : List (Addr × HO) := as.zipIdx.map fun q => (q.1, HO.lst ((rowM M n q.2).map V.int))
theorem rowsC_map (as : List Addr) (M : Nat → Nat → Int) (n : Nat) : (rowsC as M n).map (·.1) = as := by
  unfold rowsC
  rw [List.map_map]
  exact List.zipIdx_map_fst 0 as
theorem rowsC_mem {as : List Addr} {M : Nat → Nat → Int} {n : Nat} {q : Addr × HO} : q ∈ rowsC as M n ↔ ∃ i, as[i]? = some q.1 ∧ q.2 = .lst ((rowM M n i).map V.int) := by
  unfold rowsC
  rw [List.mem_map]
  constructor
  · rintro ⟨⟨a, i⟩, h, rfl⟩
    exact ⟨i, List.mem_zipIdx_iff_getElem?.mp h, rfl⟩
  · rintro ⟨i, h1, h2⟩
    exact ⟨(q.1, i), List.mem_zipIdx_iff_getElem?.mpr h1, Prod.ext rfl h2.symm⟩
theorem rowsC_snoc (as : List Addr) (a : Addr) (M : Nat → Nat → Int) (n : Nat) : rowsC (as ++ [a]) M n = rowsC as M n ++ [(a, .lst ((rowM M n as.length).map V.int))] := by
  unfold rowsC
  rw [List.zipIdx_append, List.map_append]
  simp
theorem Has.change {G H : Hp} {l l' : List (Addr × HO)} {w : Addr} {o' : HO} (h : Has G H l) (hw : ∃ o, (w, o) ∈ l) (hm : l'.map (·.1) = l.map (·.1)) (hq : ∀ q ∈ l', (q.1 = w ∧ q.2 = o') ∨ (q.1 ≠ w ∧ q ∈ l)) : Has G (upd H w o') l' := by
  obtain ⟨o, ho⟩ := hw
  have nw := (h.own _ ho).1
  refine ⟨fun a u e => ?_, fun q hq' => ?_, by rw [hm]; exact h.nd⟩
  · rw [upd_ne (ne_of_none e nw)]
    exact h.ex a u e
  · rcases hq q hq' with ⟨h1, h2⟩ | ⟨h1, h2⟩
    · refine ⟨by rw [h1]; exact nw, ?_⟩
      rw [h1, upd_same, h2]
    · refine ⟨(h.own q h2).1, ?_⟩
      rw [upd_ne h1]
      exact (h.own q h2).2
/-- a row written anew -/
theorem Has.setRow {G H : Hp} {l l1 : List (Addr × HO)} {as : List Addr} {M M' : Nat → Nat → Int} {n i : Nat} {a : Addr} (S : Has G H (l1 ++ (rowsC as M n ++ l))) (ha : as[i]? = some a) (hM : ∀ k, k ≠ i → rowM M' n k = rowM M n k) : Has G (upd H a (.lst ((rowM M' n i).map V.int))) (l1 ++ (rowsC as M' n ++ l)) := by
  have nd := S.nd
  rw [List.map_append, List.map_append, rowsC_map] at nd
  have hin : (a, HO.lst ((rowM M n i).map V.int)) ∈ rowsC as M n := rowsC_mem.mpr ⟨i, ha, rfl⟩
  have haA : a ∈ as := List.mem_of_getElem? ha
  obtain ⟨nd1, nd2, nd3⟩ := List.nodup_append.mp nd
  obtain ⟨nd4, nd5, nd6⟩ := List.nodup_append.mp nd2
  refine S.change ⟨_, List.mem_append_right _ (List.mem_append_left _ hin)⟩ (by rw [List.map_append, List.map_append, List.map_append, List.map_append, rowsC_map, rowsC_map]) fun q hq => ?_
  rcases List.mem_append.mp hq with h | h
  · exact .inr ⟨fun e => nd3 _ (List.mem_map_of_mem h) _ (List.mem_append_left _ haA) e, List.mem_append_left _ h⟩
  · rcases List.mem_append.mp h with h | h
    · obtain ⟨k, h1, h2⟩ := rowsC_mem.mp h
      by_cases c : k = i
      · subst c
        rw [ha] at h1
        exact .inl ⟨(Option.some.inj h1).symm, h2⟩
      · refine .inr ⟨fun e => c ?_, List.mem_append_right _ (List.mem_append_left _ (rowsC_mem.mpr ⟨k, h1, by rw [h2, hM k c]⟩))⟩
        rw [e] at h1
        exact nodup_at nd4 h1 ha
    · exact .inr ⟨fun e => nd6 _ haA _ (List.mem_map_of_mem h) e.symm, List.mem_append_right _ (List.mem_append_right _ h)⟩
theorem Has.row {G H : Hp} {l l1 : List (Addr × HO)} {as : List Addr} {M : Nat → Nat → Int} {n i : Nat} {a : Addr} (S : Has G H (l1 ++ (rowsC as M n ++ l))) (ha : as[i]? = some a) : H a = some (.lst ((rowM M n i).map V.int)) :=
  (S.own (a, HO.lst ((rowM M n i).map V.int)) (List.mem_append_right _ (List.mem_append_left _ (rowsC_mem.mpr ⟨i, ha, rfl⟩)))).2
theorem Has.rooms {G H : Hp} {l : List (Addr × HO)} {as : List Addr} {M : Nat → Nat → Int} {n : Nat} {R : Addr} (S : Has G H ((R, .lst (refsA as)) :: (rowsC as M n ++ l))) (la : as.length = n) : RoomsAt H R n M :=
  ⟨as, S.get 0 rfl, la, fun i a ha => Has.row (l1 := [_]) S ha⟩
/-- one number written anew -/
def putM (M : Nat → Nat → Int) (i j : Nat) (x : Int) : Nat → Nat → Int := fun a b => if a = i ∧ b = j then x else M a b
theorem rowM_put (M : Nat → Nat → Int) (n i j : Nat) (x : Int) : (rowM (putM M i j x) n i).map V.int = ((rowM M n i).map V.int).set j (.int x) := by
  unfold rowM putM
  refine List.ext_getElem? fun k => ?_
  rw [List.map_map, List.map_map, List.getElem?_set]
  by_cases c : j = k
  · subst c
    rw [if_pos rfl]
    by_cases d : j < n
    · rw [if_pos (by rw [List.length_map, List.length_range]; exact d), List.getElem?_map, List.getElem?_range d]
      show some (V.int (if i = i ∧ j = j then x else M i j)) = _
      rw [if_pos ⟨rfl, rfl⟩]
    · rw [if_neg (by rw [List.length_map, List.length_range]; exact d), List.getElem?_eq_none (by rw [List.length_map, List.length_range]; omega)]
  · rw [if_neg c, List.getElem?_map, List.getElem?_map]
    cases e : (List.range n)[k]? with
    | none => rfl
    | some y =>
      have hy : y = k := by
        have h := List.getElem?_eq_some_iff.mp e
        obtain ⟨h1, h2⟩ := h
        rw [List.getElem_range] at h2
        exact h2.symm
      show some (V.int (if i = i ∧ y = j then x else M i y)) = some (V.int (M i y))
      rw [if_neg (fun h => c (by rw [← h.2, hy]))]
theorem rowM_other (M : Nat → Nat → Int) (n i j : Nat) (x : Int) : ∀ k, k ≠ i → rowM (putM M i j x) n k = rowM M n k := fun k hk => by
  unfold rowM putM
  refine List.map_congr_left fun y _ => ?_
  exact if_neg (fun h => hk h.1)
theorem rowM_congr {M M' : Nat → Nat → Int} {n : Nat} (h : ∀ a b, a < n → b < n → M a b = M' a b) : ∀ i, i < n → rowM M n i = rowM M' n i := fun i hi => List.map_congr_left fun y hy => h i y hi (List.mem_range.mp hy)
theorem rowsC_congr {as : List Addr} {M M' : Nat → Nat → Int} {n : Nat} (la : as.length = n) (h : ∀ a b, a < n → b < n → M a b = M' a b) : rowsC as M n = rowsC as M' n := by
  unfold rowsC
  refine List.map_congr_left fun q hq => ?_
  have hi := List.mem_zipIdx_iff_getElem?.mp (show (q.1, q.2) ∈ as.zipIdx from hq)
  have := (List.getElem?_eq_some_iff.mp hi).1
  rw [rowM_congr h q.2 (by omega)]
theorem conM_nil (a b : Nat) : conM [] a b = 0 := rfl
/-- a tie more among unlike ones -/
theorem conM_take {n : Nat} {ts : List Arc} (h : Net n ts) {i : Nat} {t : Arc} (ht : ts[i]? = some t) (a b : Nat) : conM (ts.take (i + 1)) a b = putM (putM (conM (ts.take i)) t.1 t.2.1 t.2.2) t.2.1 t.1 t.2.2 a b := by
  obtain ⟨h1, h2, h3⟩ := h.ok t (List.mem_of_getElem? ht)
  have hi := (List.getElem?_eq_some_iff.mp ht).1
  have et := net_ends h (List.mem_of_getElem? ht)
  have no : wOf (ts.take i) (t.1, t.2.1) = 0 := wOf_none fun s hs e => by
    obtain ⟨j, hj⟩ := List.mem_iff_getElem?.mp hs
    have lj := (List.getElem?_eq_some_iff.mp hj).1
    rw [List.length_take] at lj
    rw [List.getElem?_take_of_lt (by omega)] at hj
    have pw := sumA_pw n ts
    rw [h.sum] at pw
    obtain ⟨j1, j2⟩ := List.getElem?_eq_some_iff.mp hj
    obtain ⟨i1, i2⟩ := List.getElem?_eq_some_iff.mp ht
    have := List.pairwise_iff_getElem.mp pw j i j1 i1 (by omega)
    rw [j2, i2] at this
    rw [net_ends h (List.mem_of_getElem? hj), Prod.mk.injEq] at e
    omega
  unfold conM putM
  rw [take_snoc ht, wOf_snoc, et]
  by_cases c : a = t.2.1 ∧ b = t.1
  · rw [if_pos c, if_pos (by rw [Prod.mk.injEq]; omega), show (min a b, max a b) = (t.1, t.2.1) by rw [Prod.mk.injEq]; omega, no]
    omega
  · rw [if_neg c]
    by_cases d : a = t.1 ∧ b = t.2.1
    · rw [if_pos d, if_pos (by rw [Prod.mk.injEq]; omega), show (min a b, max a b) = (t.1, t.2.1) by rw [Prod.mk.injEq]; omega, no]
      omega
    · rw [if_neg d, if_neg (by rw [Prod.mk.injEq]; omega)]
      rfl
section
variable {P : Program} {w : World} {K : PySem.W.Frag} {mg : Str → Option Value} {base : Heap} {C N : Addr}
abbrev NRO : List Str := ["web", "rooms", "low", "high", "weight", "_"]
theorem sc_rooms_of : FnScope NRO ["web"] (defScope s_rooms_of) := ⟨rfl, rfl, rfl, by decide +kernel, rfl, by decide +kernel, by decide +kernel⟩
def spRooms (C : Addr) : Sp := fun vs H Q _ => ∃ (G : Hp) (l : List (Addr × HO)) (a : Addr) (n : Nat) (ts : List Arc), vs = [.ref a] ∧ Has G H l ∧ WebAt C G a n ts ∧ Net n ts ∧
  ∀ (H' : Hp) (R : Addr) (as : List Addr), Has G H' ((R, .lst (refsA as)) :: (rowsC as (conM ts) n ++ l)) → as.length = n → Q (.ref R) H'
theorem ok_rooms_of {gp gg gi : Addr} {gpd gid : FuncData} (D : Dfn K mg "rooms_of" s_rooms_of ["web"]) (z : Z mg) (T : WC K mg C) (PP : TG P w K mg base C gp gg gpd "places" (spWPlaces C)) (It : WI P w K mg base C gi gid) : Ok P w K mg base 3 "rooms_of" ["web"] (spRooms C) := D.ok fun f fd F => by
  refine F.ok sc_rooms_of (fun vs H Q E h => ?_) (fun cdv A outer s H vs Q E hr h => ?_)
  · obtain ⟨G, l, a, n, ts, rfl, _⟩ := h
    rfl
  · obtain ⟨G, l, a, n, ts, rfl, S, web, net, q⟩ := h
    obtain ⟨dx, tl, xs, h1, h2, h3⟩ := id web
    refine ⟨_, (pss_cons (ps_setLc (i := 1) (own := [("_", 5)]) (g := gName 5) rfl sc_rooms_of.nd rfl rfl (sw_true rfl rfl rfl (by decide +kernel)) (pi_range1 (by rfl) z.range (pa_cons (pe_prop (pv 0) T.cl PP.at_ PP.ok (hr.mono (by decide)) PP.b .nil pass0 rfl) pa_nil)) (blkOk_by (N := NRO) (own := [("_", 5)]) (sc := defScope s_rooms_of) (by decide +kernel)) (fun _ _ _ _ _ => pg_name (i := 5) sc_rooms_of.nd rfl (Or.inl rfl)) (fun _ _ _ _ _ => pts_nil) (fun _ _ _ _ _ => (pe_op op_rep (pe_lst (pa_cons pe_int pa_nil)) (pe_prop (pv 0) T.cl PP.at_ PP.ok (hr.mono (by decide)) PP.b .nil pass0 rfl))))
      (pss_cons (ps_for PassesOwn.never rfl (pi_own (f := "_ties") (pv 0) It.at_ It.fn It.ok It.b (hr.mono (by decide))) (pg_tup rfl (pgs_cons (pg_name (i := 2) sc_rooms_of.nd rfl (Or.inl rfl)) (pgs_cons (pg_name (i := 3) sc_rooms_of.nd rfl (Or.inl rfl)) (pgs_cons (pg_name (i := 4) sc_rooms_of.nd rfl (Or.inl rfl)) pgs_nil))))
        (pss_cons (ps_asg (pv 4) (pg_sub (pe_ix ix_list (pv 1) (pv 2) (fun _ _ => rfl)) (pv 3) set_list))
        (pss_one (ps_asg (pv 4) (pg_sub (pe_ix ix_list (pv 1) (pv 3) (fun _ _ => rfl)) (pv 2) set_list)))))
      (pss_one (ps_ret (pv 1))))), ?_⟩
    have n100 := net.few
    have webH := web.ex S.ex
    refine ⟨_, rfl, a, dx, _, rfl, S.ex _ _ h1, a, n, ts, rfl, webH, n, rfl, by omega, by omega, fun R nR => ?_⟩
    rw [show ((n : Nat) : Int).toNat = n by omega]
    refine lc_range (lo := 0) (n := n) (fun i H' => ∃ as : List Addr, as.length = i ∧ Has G H' ((R, .lst (refsA as)) :: (rowsC as (conM []) n ++ l))) ⟨[], rfl, S.new nR⟩ ?_ ?_
    · rintro i H1 hi ⟨as, la, S1⟩
      refine ⟨rfl, sz (by show 1 ≤ 100000; decide), fun p np => ?_⟩
      have S2 := S1.new (o := .lst [.int 0]) np
      generalize upd H1 p (.lst [.int 0]) = H2 at S2
      refine ⟨_, rfl, a, dx, _, rfl, S2.ex _ _ h1, a, n, ts, rfl, web.ex S2.ex, p, n, [.int 0], rfl, rfl, S2.get 0 rfl, by omega, by omega, sz (by show 1 * ((n : Nat) : Int).toNat ≤ 100000; omega), fun r nr => ?_⟩
      have S3 := S2.new (o := .lst (List.replicate ((n : Nat) : Int).toNat [V.int 0]).flatten) nr
      have er : (List.replicate ((n : Nat) : Int).toNat [V.int 0]).flatten = (rowM (conM []) n as.length).map V.int := by
        rw [show ((n : Nat) : Int).toNat = n by omega]
        refine List.ext_getElem? fun k => ?_
        rw [show (List.replicate n [V.int 0]).flatten = List.replicate n (V.int 0) by
          clear S2 S3 nr n100 webH q S net web h1 h3 hi S1 np
          induction n with
          | zero => rfl
          | succ n ih => rw [List.replicate_succ, List.replicate_succ, List.flatten_cons, ih]; rfl]
        by_cases c : k < n
        · rw [rowM_at c, List.getElem?_replicate, if_pos c]
          rfl
        · rw [List.getElem?_eq_none (by rw [List.length_replicate]; omega), List.getElem?_eq_none (by rw [List.length_map, rowM_len]; omega)]
      rw [er] at S3 ⊢
      generalize upd H2 r (.lst ((rowM (conM []) n as.length).map V.int)) = H3 at S3
      refine ⟨refsA as, S3.get 2 rfl, szl (by unfold refsA; rw [List.length_map]; omega), as ++ [r], by rw [List.length_append, la]; rfl, ?_⟩
      have S4 : Has G (upd H3 R (.lst (refsA as ++ [V.ref r]))) ((r, .lst ((rowM (conM []) n as.length).map V.int)) :: (p, .lst [.int 0]) :: (R, .lst (refsA as ++ [V.ref r])) :: (rowsC as (conM []) n ++ l)) := S3.set 2 rfl
      have e1 : refsA (as ++ [r]) = refsA as ++ [V.ref r] := List.map_append
      rw [e1, rowsC_snoc]
      refine S4.drop2.perm ?_
      rw [List.append_assoc]
      exact (List.Perm.swap _ _ _).trans ((List.perm_middle (l₁ := rowsC as (conM []) n)).symm.cons _)
    · rintro H1 ⟨as, la, S1⟩
      refine ⟨_, rfl, a, dx, _, tl, _, rfl, S1.ex _ _ h1, wf_ties n tl, Evl.st_of (S1.ex _ _ h2), ?_⟩
      have lx : xs.length = ts.length := by rw [h3.1, List.length_map]
      refine for_it (walk_tup (K := K) (a := tl) (xs := xs)) (fun i σ H' => ∃ v2 v3 v4 v5 : Option V, σ = [some (.ref a), some (.ref R), v2, v3, v4, v5] ∧ Has G H' ((R, .lst (refsA as)) :: (rowsC as (conM (ts.take i)) n ++ l))) ⟨none, none, none, none, rfl, S1⟩ (fun i σ H' _ h => by
        obtain ⟨_, _, _, _, _, S'⟩ := h
        exact Evl.st_of (S'.ex _ _ h2)) ?_ ?_
      · rintro i x σ H2a H2 hi ⟨v2, v3, v4, v5, rfl, S2⟩ ⟨rfl, hx⟩
        obtain ⟨t, ht, ax⟩ := ats_get h3 hx
        obtain ⟨b, rfl, hb⟩ := (ax.ex S2.ex).arc
        obtain ⟨k1, k2, k3⟩ := net.ok t (List.mem_of_getElem? ht)
        have l1 : t.1 < as.length := by omega
        have l2 : t.2.1 < as.length := by omega
        have a1 : as[t.1]? = some as[t.1] := List.getElem?_eq_getElem l1
        have a2 : as[t.2.1]? = some as[t.2.1] := List.getElem?_eq_getElem l2
        have r1 : (refsA as)[t.1]? = some (.ref as[t.1]) := by unfold refsA; rw [List.getElem?_map, a1]; rfl
        have r2 : (refsA as)[t.2.1]? = some (.ref as[t.2.1]) := by unfold refsA; rw [List.getElem?_map, a2]; rfl
        refine ⟨b, _, rfl, Evl.st_of hb, rfl, _, _, rfl, _, _, rfl, _, _, rfl, rfl, ?_⟩
        have g1 := Has.row (l1 := [_]) S2 a1
        refine ⟨_, rfl, _, rfl, _, rfl, R, _, t.1, _, rfl, rfl, Evl.sq_of (S2.get 0 rfl), atI_nat r1, _, rfl, as[t.1], _, t.2.1, t.2.1, rfl, rfl, g1, Evl.ixN_nat (by rw [List.length_map, rowM_len]; exact k2), ?_⟩
        have S3 : Has G _ ((R, .lst (refsA as)) :: (rowsC as (putM (conM (ts.take i)) t.1 t.2.1 t.2.2) n ++ l)) := Has.setRow (l1 := [_]) S2 a1 (rowM_other _ _ _ _ _)
        rw [rowM_put] at S3
        generalize upd H2 as[t.1] (.lst (((rowM (conM (ts.take i)) n t.1).map V.int).set t.2.1 (.int t.2.2))) = H3 at S3
        have g2 := Has.row (l1 := [_]) S3 a2
        refine ⟨_, rfl, _, rfl, _, rfl, R, _, t.2.1, _, rfl, rfl, Evl.sq_of (S3.get 0 rfl), atI_nat r2, _, rfl, as[t.2.1], _, t.1, t.1, rfl, rfl, g2, Evl.ixN_nat (by rw [List.length_map, rowM_len]; omega), ?_⟩
        have S4 : Has G _ ((R, .lst (refsA as)) :: (rowsC as (putM (putM (conM (ts.take i)) t.1 t.2.1 t.2.2) t.2.1 t.1 t.2.2) n ++ l)) := Has.setRow (l1 := [_]) S3 a2 (rowM_other _ _ _ _ _)
        rw [rowM_put] at S4
        refine ⟨_, _, _, _, rfl, ?_⟩
        rw [rowsC_congr la fun c d _ _ => conM_take net ht c d]
        exact S4
      · rintro σ H2 ⟨v2, v3, v4, v5, rfl, S2⟩
        rw [lx, List.take_length] at S2
        exact ⟨_, rfl, q H2 R as S2 la⟩
end
end TW
set_option Elab.async false
set_option linter.all false
set_option maxRecDepth 100000
set_option maxHeartbeats 1000000
namespace TW
open PySem PySem.Spec PyProof.Rows L2
def aheadV : Option Nat → V
  | none => .non
  | some q => .int q
def entW (e : Nat × Option Nat) : Key × V := (.inl (e.1 : Int), aheadV e.2)
theorem valW (k : Nat) : ∀ ks : List (Nat × Option Nat), (valV (ks.map entW) (Sum.inl (k : Int))).isSome = decide (k ∈ ks.map (·.1))
  | [] => rfl
  | e :: ks => by
    by_cases h : e.1 = k
    · rw [List.map_cons, valV_pos (show (entW e).1 = Sum.inl (k : Int) by unfold entW; rw [h]), decide_eq_true (show k ∈ (e :: ks).map (·.1) by rw [List.map_cons, h]; exact List.mem_cons_self)]
      rfl
    · rw [List.map_cons, valV_neg (show ¬ (entW e).1 = Sum.inl (k : Int) from fun q => h (by
        have := Sum.inl.inj q
        omega)), valW k ks]
      rw [decide_eq_decide, List.map_cons, List.mem_cons]
      exact ⟨.inr, fun q => q.resolve_left fun e2 => h e2.symm⟩
theorem valW_none {k : Nat} {ks : List (Nat × Option Nat)} (h : k ∉ ks.map (·.1)) : valV (ks.map entW) (Sum.inl (k : Int)) = none := by
  have := valW k ks
  rw [decide_eq_false h] at this
  cases e : valV (ks.map entW) (Sum.inl (k : Int)) with
  | none => rfl
  | some x => rw [e] at this; cases this
theorem putW {k : Nat} {o : Option Nat} {ks : List (Nat × Option Nat)} (h : k ∉ ks.map (·.1)) : putK (ks.map entW) (Sum.inl (k : Int)) (aheadV o) = (ks ++ [(k, o)]).map entW := by
  rw [putK_new _ (valW_none h), List.map_append]
  rfl
/-- where the search stands: lay is looked through up to i, fnd is found meanwhile -/
structure Bf (n : Nat) (M : Nat → Nat → Int) (S : List Nat) (ks : List (Nat × Option Nat)) (lay : List Nat) (i : Nat) (fnd : List Nat) : Prop where
  way : Way n M S ks
  all : ∀ s ∈ S, s ∈ ks.map (·.1)
  sub : ∀ k ∈ lay, k ∈ ks.map (·.1)
  fsub : ∀ k ∈ fnd, k ∈ ks.map (·.1)
  cl : ∀ u ∈ ks.map (·.1), u ∉ fnd → (u ∉ lay ∨ u ∈ lay.take i) → ∀ v, v < n → 0 < M u v → v ∈ ks.map (·.1)
section
variable {n : Nat} {M : Nat → Nat → Int} {S : List Nat} {ks : List (Nat × Option Nat)} {lay fnd : List Nat} {i : Nat}
theorem Bf.add (h : Bf n M S ks lay i fnd) {u v : Nat} (hu : u ∈ ks.map (·.1)) (hv : v < n) (hn : v ∉ ks.map (·.1)) (hM : 0 < M u v) : Bf n M S (ks ++ [(v, some u)]) lay i (fnd ++ [v]) := by
  refine ⟨h.way.step hu hv hn hM, fun s hs => mem_snoc.mpr (.inl (h.all s hs)), fun k hk => mem_snoc.mpr (.inl (h.sub k hk)), fun k hk => ?_, fun a ha hf hl b hb hM => ?_⟩
  · rcases List.mem_append.mp hk with q | q
    · exact mem_snoc.mpr (.inl (h.fsub k q))
    · exact mem_snoc.mpr (.inr (List.mem_singleton.mp q))
  · have hf1 : a ∉ fnd := fun q => hf (List.mem_append_left _ q)
    rcases mem_snoc.mp ha with q | q
    · exact mem_snoc.mpr (.inl (h.cl a q hf1 hl b hb hM))
    · exact absurd (List.mem_append_right fnd (List.mem_singleton.mpr q)) hf
theorem Bf.next (h : Bf n M S ks lay i fnd) {p : Nat} (hp : lay[i]? = some p) (hc : ∀ v, v < n → 0 < M p v → v ∈ ks.map (·.1)) : Bf n M S ks lay (i + 1) fnd := by
  refine ⟨h.way, h.all, h.sub, h.fsub, fun a ha hf hl => ?_⟩
  rw [take_snoc hp] at hl
  rcases hl with q | q
  · exact h.cl a ha hf (.inl q)
  · rcases List.mem_append.mp q with q | q
    · exact h.cl a ha hf (.inr q)
    · rw [List.mem_singleton.mp q]
      exact hc
theorem Bf.turn (h : Bf n M S ks lay lay.length fnd) : Bf n M S ks fnd 0 [] := by
  refine ⟨h.way, h.all, h.fsub, fun k hk => absurd hk List.not_mem_nil, fun a ha hf hl => ?_⟩
  rcases hl with q | q
  · refine h.cl a ha q ?_
    rw [List.take_length]
    by_cases c : a ∈ lay
    · exact .inr c
    · exact .inl c
  · exact absurd q List.not_mem_nil
theorem Bf.full (h : Bf n M S ks [] 0 []) : FullW n M S ks := ⟨h.way, h.all, fun u hu v hv hM => h.cl u hu List.not_mem_nil (.inl List.not_mem_nil) v hv hM⟩
end
theorem rowI_snocV (row : List Nat) (k : Nat) : (rowI row).map V.int ++ [V.int (k : Int)] = (rowI (row ++ [k])).map V.int := by
  unfold rowI
  rw [List.map_append, List.map_append]
  rfl
/-- rooms[place][other] > 0 and other not in ahead; slots 1, 5, 6, 2 -/
def tNewPl : TT := fun σ H Q => ∃ (R D : Addr) (n u v : Nat) (M : Nat → Nat → Int) (ks : List (Nat × Option Nat)), σ[1]? = some (some (.ref R)) ∧ σ[2]? = some (some (.ref D)) ∧ σ[5]? = some (some (.int u)) ∧ σ[6]? = some (some (.int v)) ∧ RoomsAt H R n M ∧ H D = some (.dK (ks.map entW)) ∧ u < n ∧ v < n ∧ Q (decide (0 < M u v) && !decide (v ∈ ks.map (·.1))) H
section
variable {P : Program} {w : World} {K : PySem.W.Frag} {mg : Str → Option Value} {base : Heap} {C N : Addr}
abbrev NWF : List Str := ["starts", "rooms", "ahead", "layer", "found", "place", "other_place", "start"]
theorem sc_ways_from : FnScope NWF ["starts", "rooms"] (defScope s_ways_from) := ⟨rfl, rfl, rfl, by decide +kernel, rfl, by decide +kernel, by decide +kernel⟩
def spWays (K : PySem.W.Frag) : Sp := fun vs H Q _ => ∃ (a R : Addr) (n : Nat) (M : Nat → Nat → Int) (S : List Nat), vs = [.ref a, .ref R] ∧ (SqL K H a ((rowI S).map V.int) ∨ SqT K H a ((rowI S).map V.int)) ∧ S.Nodup ∧ (∀ s ∈ S, s < n) ∧ n ≤ 1000 ∧ RoomsAt H R n M ∧
  ∀ (H' : Hp) (D : Addr) (ks : List (Nat × Option Nat)), Ex H H' → H D = none → H' D = some (.dK (ks.map entW)) → FullW n M S ks → Q (.ref D) H'
theorem ok_ways_from (D : Dfn K mg "ways_from" s_ways_from ["starts", "rooms"]) (z : Z mg) : Ok P w K mg base 1 "ways_from" ["starts", "rooms"] (spWays K) := D.ok fun f fd F => by
  refine F.ok sc_ways_from (fun vs H Q E h => ?_) (fun cdv A outer s H vs Q E hr h => ?_)
  · obtain ⟨a, R, n, M, S, rfl, _⟩ := h
    rfl
  · obtain ⟨a, R, n, M, S, rfl, hS, nd, hlt, hn, rm, q⟩ := h
    refine ⟨_, (pss_cons (ps_setDc (i := 2) (own := [("start", 7)]) (g := gName 7) rfl sc_ways_from.nd rfl rfl (sw_trueD rfl rfl rfl (by decide +kernel)) (pi_any (K := K) (pv 0)) (blkOk_by (N := NWF) (own := [("start", 7)]) (sc := defScope s_ways_from) (by decide +kernel)) (fun _ _ _ _ _ => pg_name (i := 7) sc_ways_from.nd rfl (Or.inl rfl)) (fun _ _ _ _ _ => pts_nil) (fun _ _ _ _ _ => (pv 7)) (fun _ _ _ _ _ => pe_non))
      (pss_cons (ps_set (i := 3) sc_ways_from.nd rfl (Or.inl rfl) (pe_callTy call_list_of (by rfl) z.list (by decide +kernel) (pa_cons (pv 0) pa_nil)))
      (pss_cons (ps_while PassesOwn.never (pt_cmpR op_gt (pe_callB call_len_seq (by rfl) z.len PySem.boot_len (pa_cons (pv 3) pa_nil)) pe_int (nomark _))
        (pss_cons (ps_set (i := 4) sc_ways_from.nd rfl (Or.inl rfl) (pe_lst pa_nil))
        (pss_cons (ps_for PassesOwn.never rfl (pi_list (pe_callTy call_list_of (by rfl) z.list (by decide +kernel) (pa_cons (pv 3) pa_nil))) (pg_name (i := 5) sc_ways_from.nd rfl (Or.inl rfl))
          (pss_one (ps_for PassesOwn.never rfl (pi_range1 (by rfl) z.range (pa_cons (pe_callB call_len_seq (by rfl) z.len PySem.boot_len (pa_cons (pv 1) pa_nil)) pa_nil)) (pg_name (i := 6) sc_ways_from.nd rfl (Or.inl rfl))
            (pss_one (ps_if (PT.imp (t' := tNewPl) (PW.pt (pw_and (pt_cmpR op_gt (pe_ix ix_list (pe_ix ix_list (pv 1) (pv 5) (fun _ _ => rfl)) (pv 6) (fun _ _ => rfl)) pe_int (nomark _)) (pw_and1 (pt_cmp (pc_dnotin (hu_of hr) (pv 6) (pv 2)))))) (fun σ H Q h => by
              obtain ⟨R, D, n, u, v, M, ks, h1, h2, h5, h6, rm, hd, hu, hv, q⟩ := h
              obtain ⟨as, ra, g1, g2, g3, g4⟩ := rm.get hu
              refine ⟨_, h1, _, h5, R, _, u, _, rfl, rfl, Evl.sq_of g1, atI_nat g3, _, h6, ra, _, v, _, rfl, rfl, Evl.sq_of g4, atI_nat (rowM_at hv), _, _, rfl, rfl, _, rfl, ?_⟩
              refine ite2 (fun hc => ?_) (fun hc => ?_)
              · have c : 0 < M u v := of_decide_eq_true hc
                rw [decide_eq_true c, Bool.true_and] at q
                refine ⟨_, h6, _, h2, D, _, rfl, DGet.k (k := Sum.inl (v : Int)) hd, _, rfl, ?_⟩
                rw [valW]
                exact q
              · have c : ¬ 0 < M u v := fun c => hc (decide_eq_true c)
                rw [decide_eq_false c, Bool.false_and] at q
                exact q))
              (pss_cons (ps_dput (hu_of hr) (pv 2) (pv 6) (pv 5) rfl)
              (pss_one (ps_expr (pe_bm PySem.F.plainAttrs_list PySem.F.slot_list_append PySem.F.type_list_append mt_append (pv 4) (pa_cons (pv 6) pa_nil))))) pss_nil)))))
        (pss_one (ps_set (i := 3) sc_ways_from.nd rfl (Or.inl rfl) (pv 4))))))
      (pss_one (ps_ret (pv 2)))))), ?_⟩
    have stayS : ∀ {H' : Hp}, Ex H H' → SqL K H' a ((rowI S).map V.int) ∨ SqT K H' a ((rowI S).map V.int) := fun e => hS.imp (Evl.ex_l e) (Evl.ex_t e)
    have lS : S.length ≤ n := by
      have := nodup_lenG nd (ys := List.range n) fun k hk => List.mem_range.mpr (hlt k hk)
      rw [List.length_range] at this
      exact this
    -- the dict of the starts
    have any : ∀ (Rw : V → Hp → Prop), (∀ D H', H D = none → Has H H' [(D, .dK ((S.map fun s => (s, (none : Option Nat))).map entW))] → Rw (.ref D) H') → tDc (iAny K (tVar 0)) (gName 7) tYes (tVar 7) (tC V.non) [7] (L2.start NWF [V.ref a, V.ref R]) H Rw := by
      intro Rw hR
      have w : ∀ (J : It), Walk J ((rowI S).map V.int).length (fun H' => Ex H H') (YAt ((rowI S).map V.int)) → ∀ D, H D = none → ∃ W : Nat → Nat → Hp → Prop, (∃ m, W 0 m (upd H D (.dK []))) ∧ ∀ i m H, W i m H →
          (J.stop i H ∧ Rw (.ref D) H) ∨ (J.go i H ∧ ∃ Nx : Hp → Prop, (∀ H', Nx H' → ∃ m', m' < m ∧ W (i + 1) m' H') ∧ ∀ x H', J.yld i H x H' → gName 7 x (wipe (L2.start NWF [V.ref a, V.ref R]) [7]) H' fun σ2 H2 => wipe σ2 [7] = wipe (L2.start NWF [V.ref a, V.ref R]) [7] ∧ tYes σ2 H2 fun b H3 =>
            if b = true then tVar 7 σ2 H3 fun y H4 => tC V.non σ2 H4 fun z H5 => ∃ kvs k, y = kV k ∧ H5 D = some (.dK kvs) ∧ kvs.length < sizeLine ∧ Nx (upd H5 D (.dK (putK kvs k z))) else Nx H3) := by
        intro J w D hD
        refine dc_it w (Qd := fun H => Rw (.ref D) H) (fun i H' => Has H H' [(D, .dK (((S.take i).map fun s => (s, (none : Option Nat))).map entW))]) (Has.nil.new hD) (fun i H' _ S' => S'.ex) ?_ ?_
        · rintro i x H1 H2 hi S1 ⟨rfl, hx⟩
          obtain ⟨y, hy, rfl⟩ := map_get hx
          obtain ⟨k, rfl, hk⟩ := rowI_get hy
          have lk := (List.getElem?_eq_some_iff.mp hk).1
          refine ⟨rfl, _, rfl, _, Sum.inl (k : Int), rfl, S1.get 0 rfl, szl (by rw [List.length_map, List.length_map, List.length_take]; omega), ?_⟩
          have hnot : k ∉ ((S.take i).map fun s => (s, (none : Option Nat))).map (·.1) := by
            rw [List.map_map]
            intro hm
            obtain ⟨k2, hk2, e2⟩ := List.mem_map.mp hm
            have e2 : k2 = k := e2
            rw [e2] at hk2
            obtain ⟨j, hj⟩ := List.mem_iff_getElem?.mp hk2
            have lj := (List.getElem?_eq_some_iff.mp hj).1
            rw [List.length_take] at lj
            rw [List.getElem?_take_of_lt (by omega)] at hj
            have := nodup_at nd hj hk
            omega
          have e : putK (((S.take i).map fun s => (s, (none : Option Nat))).map entW) (Sum.inl (k : Int)) V.non = ((((S.take (i + 1)).map fun s => (s, (none : Option Nat))).map entW)) := by
            have := putW (o := none) hnot
            rw [take_snoc hk, List.map_append]
            exact this
          rw [e]
          exact S1.set 0 rfl
        · intro H1 S1
          have e : S.take ((rowI S).map V.int).length = S := by rw [List.length_map, rowI_len, List.take_length]
          rw [e] at S1
          exact hR D H1 hD S1
      refine ⟨_, rfl, a, rfl, ?_⟩
      rcases hS with hl | ht
      · exact .inl ⟨⟨_, hl⟩, w (Itl K a) (walk_list.mono (fun H' e => Evl.ex_l e hl) fun _ _ _ _ _ _ y => y)⟩
      · exact .inr ⟨⟨_, ht⟩, w (Itt K a) (walk_tup.mono (fun H' e => Evl.ex_t e ht) fun _ _ _ _ _ _ y => y)⟩
    have w0 : ∀ l : List Nat, (∀ s ∈ l, s ∈ S) → l.Nodup → Way n M S (l.map fun s => (s, none)) := by
      have key : ∀ l r : List Nat, (∀ s ∈ r, s ∈ S) → (l ++ r).Nodup → Way n M S (l.map fun s => (s, none)) → Way n M S ((l ++ r).map fun s => (s, none)) := by
        intro l r
        induction r generalizing l with
        | nil => intro _ _ h; rw [List.append_nil]; exact h
        | cons s r ih =>
          intro hs hnd h
          have e : l ++ s :: r = (l ++ [s]) ++ r := by rw [List.append_assoc]; rfl
          rw [e] at hnd ⊢
          refine ih (l ++ [s]) (fun t ht => hs t (List.mem_cons_of_mem _ ht)) hnd ?_
          rw [List.map_append]
          refine h.start (hs s List.mem_cons_self) fun hm => ?_
          rw [List.map_map] at hm
          obtain ⟨k2, hk2, e2⟩ := List.mem_map.mp hm
          have e2 : k2 = s := e2
          obtain ⟨d1, _⟩ := List.nodup_append.mp hnd
          obtain ⟨_, _, d2⟩ := List.nodup_append.mp d1
          exact d2 k2 hk2 s List.mem_cons_self e2
      intro l hl hnd
      exact key [] l hl hnd .nil
    have allS : ∀ s ∈ S, s ∈ (S.map fun s => (s, (none : Option Nat))).map (·.1) := fun s hs => by
      rw [List.map_map]
      exact List.mem_map.mpr ⟨s, hs, rfl⟩
    unfold tSeq tAsg
    refine any _ fun D H1 hD S1 => ?_
    -- the layer
    obtain ⟨ks0, hk0⟩ : ∃ ks0, ks0 = S.map fun s => (s, (none : Option Nat)) := ⟨_, rfl⟩
    have w1 := w0 S (fun _ h => h) nd
    rw [← hk0] at S1 w1 allS
    refine ⟨_, rfl, a, _, rfl, stayS S1.ex, fun L nL => ?_⟩
    have S2 := S1.new (o := .lst ((rowI S).map V.int)) nL
    generalize upd H1 L (.lst ((rowI S).map V.int)) = H2 at S2
    have B0 : Bf n M S ks0 S 0 [] := ⟨w1, allS, allS, fun k h => absurd h List.not_mem_nil, fun u hu _ hl => by
      have hu2 : u ∈ S := by
        rw [hk0, List.map_map] at hu
        obtain ⟨k2, hk2, e2⟩ := List.mem_map.mp hu
        have e2 : k2 = u := e2
        rw [← e2]
        exact hk2
      rcases hl with h | h
      · exact absurd hu2 h
      · exact absurd h List.not_mem_nil⟩
    have rm0 : ∀ {H' : Hp}, Ex H H' → RoomsAt H' R n M := fun e => rm.ex e
    obtain ⟨W, hW⟩ : ∃ W : Nat → L2.St → Hp → Prop, W = fun m σ H' => ∃ (L : Addr) (G' : Hp) (ks : List (Nat × Option Nat)) (lay : List Nat) (v4 v5 v6 v7 : Option V), σ = [some (.ref a), some (.ref R), some (.ref D), some (.ref L), v4, v5, v6, v7] ∧ Ex H G' ∧ Has G' H' [(L, .lst ((rowI lay).map V.int)), (D, .dK (ks.map entW))] ∧ Bf n M S ks lay 0 [] ∧ m = 2 * (n - ks.length) + (if lay = [] then 0 else 1) := ⟨_, rfl⟩
    refine ⟨W, ⟨2 * (n - ks0.length) + (if S = [] then 0 else 1), ?_⟩, ?_⟩
    · rw [hW]
      exact ⟨L, H, ks0, S, none, none, none, _, rfl, Evl.Ex.refl _, S2, B0, rfl⟩
    intro m σ H3 hw
    rw [hW] at hw
    obtain ⟨L, G3, ks, lay, v4, v5, v6, v7, rfl, e3, S3, B, rfl⟩ := hw
    have kl := B.way.len hlt
    refine ⟨_, rfl, L, _, rfl, .inl (Evl.sq_of (S3.get 0 rfl)), _, _, rfl, rfl, _, rfl, ?_⟩
    refine ite2 (fun hc => ?_) (fun hc => ?_)
    · have hne : lay ≠ [] := fun e => by
        rw [e] at hc
        exact absurd hc (by decide)
      refine ⟨fun σ' H' => ∃ m', m' < 2 * (n - ks.length) + (if lay = [] then 0 else 1) ∧ W m' σ' H', fun σ' H' h => h, ?_⟩
      rw [if_neg hne]
      refine ⟨sz (by show 0 ≤ 100000; decide), fun Fd nF => ?_⟩
      have S4 := S3.new (o := .lst []) nF
      generalize upd H3 Fd (.lst []) = H4 at S4
      refine ⟨_, rfl, L, _, rfl, .inl (Evl.sq_of (S4.get 1 rfl)), fun L2 nL2 => ?_⟩
      obtain ⟨G5, e5, hL2, S5⟩ := S4.newG (o := .lst ((rowI lay).map V.int)) nL2
      generalize upd H4 L2 (.lst ((rowI lay).map V.int)) = H5 at S5
      have e05 := e3.trans e5
      refine ⟨L2, rfl, ⟨_, Evl.sq_of (S5.ex _ _ hL2)⟩, for_list (K := K) (a := L2) (xs := (rowI lay).map V.int) (fun i σ H' => ∃ (G' : Hp) (ks' : List (Nat × Option Nat)) (fnd : List Nat) (v5 v6 : Option V), σ = [some (.ref a), some (.ref R), some (.ref D), some (.ref L), some (.ref Fd), v5, v6, v7] ∧ Ex G5 G' ∧ Has G' H' [(Fd, .lst ((rowI fnd).map V.int)), (L, .lst ((rowI lay).map V.int)), (D, .dK (ks'.map entW))] ∧ Bf n M S ks' lay i fnd ∧ ks'.length = ks.length + fnd.length)
        ⟨G5, ks, [], _, _, rfl, Evl.Ex.refl _, S5, B, rfl⟩ (fun i σ H' _ h => by
          obtain ⟨G', _, _, _, _, _, e, S', _⟩ := h
          exact Evl.sq_of ((e.trans S'.ex) _ _ hL2)) ?_ ?_⟩
      · rintro i x σ H6 hi ⟨G6, ks6, fnd6, v5, v6, rfl, e6, S6, B6, len6⟩
        obtain ⟨y, hy, rfl⟩ := map_get hi
        obtain ⟨p, rfl, hp⟩ := rowI_get hy
        have pk := B6.sub p (List.mem_of_getElem? hp)
        have pn := B6.way.lt hlt p pk
        obtain ⟨as, r1, r2, r3⟩ := rm0 ((e05.trans e6).trans S6.ex)
        have rl : (refsA as).length = n := by unfold refsA; rw [List.length_map]; exact r2
        refine ⟨_, rfl, R, _, rfl, .inl (Evl.sq_of r1), n, by rw [rl], by omega, by omega, ?_⟩
        rw [show ((n : Nat) : Int).toNat = n by omega]
        refine for_range (lo := 0) (n := n) (fun j σ H' => ∃ (G' : Hp) (ks' : List (Nat × Option Nat)) (fnd : List Nat) (v6 : Option V), σ = [some (.ref a), some (.ref R), some (.ref D), some (.ref L), some (.ref Fd), some (.int p), v6, v7] ∧ Ex G5 G' ∧ Has G' H' [(Fd, .lst ((rowI fnd).map V.int)), (L, .lst ((rowI lay).map V.int)), (D, .dK (ks'.map entW))] ∧ Bf n M S ks' lay i fnd ∧ ks'.length = ks.length + fnd.length ∧ p ∈ ks'.map (·.1) ∧ ∀ v, v < j → 0 < M p v → v ∈ ks'.map (·.1))
          ⟨G6, ks6, fnd6, v6, rfl, e6, S6, B6, len6, pk, fun v hv => absurd hv (Nat.not_lt_zero _)⟩ ?_ ?_
        · rintro j σ H7 hj ⟨G7, ks7, fnd7, v6, rfl, e7, S7, B7, len7, pk7, cl7⟩
          rw [Int.zero_add]
          have kl7 := B7.way.len hlt
          refine ⟨R, D, n, p, j, M, ks7, rfl, rfl, rfl, rfl, rm0 ((e05.trans e7).trans S7.ex), S7.get 2 rfl, pn, hj, ?_⟩
          refine ite2 (fun hb => ?_) (fun hb => ?_)
          · rw [Bool.and_eq_true, decide_eq_true_eq, Bool.not_eq_true', decide_eq_false_iff_not] at hb
            obtain ⟨hM, hno⟩ := hb
            refine ⟨_, rfl, _, rfl, _, rfl, D, _, rfl, DPut.k (k := Sum.inl (j : Int)) (S7.get 2 rfl) (szl (by rw [List.length_map]; omega)), ?_⟩
            have S8 : Has G7 (upd H7 D (.dK (putK (ks7.map entW) (Sum.inl (j : Int)) (.int p)))) [(Fd, .lst ((rowI fnd7).map V.int)), (L, .lst ((rowI lay).map V.int)), (D, .dK (putK (ks7.map entW) (Sum.inl (j : Int)) (.int p)))] := S7.set 2 rfl
            have e8 : putK (ks7.map entW) (Sum.inl (j : Int)) (.int p) = (ks7 ++ [(j, some p)]).map entW := putW (o := some p) hno
            rw [e8] at S8
            rw [e8]
            generalize upd H7 D (.dK ((ks7 ++ [(j, some p)]).map entW)) = H8 at S8
            refine ⟨_, rfl, .inl ⟨rfl, _, Evl.sq_of (S8.get 0 rfl)⟩, _, rfl, Fd, _, _, rfl, rfl, S8.get 0 rfl, szl (by rw [List.length_map, rowI_len]; omega), ?_⟩
            rw [rowI_snocV]
            refine ⟨G7, ks7 ++ [(j, some p)], fnd7 ++ [j], _, rfl, e7, S8.set 0 rfl, B7.add pk7 hj hno hM, by rw [List.length_append, List.length_append, len7]; rfl, mem_snoc.mpr (.inl pk7), fun v hv hMv => ?_⟩
            by_cases c : v = j
            · exact mem_snoc.mpr (.inr c)
            · exact mem_snoc.mpr (.inl (cl7 v (by omega) hMv))
          · refine ⟨G7, ks7, fnd7, _, rfl, e7, S7, B7, len7, pk7, fun v hv hMv => ?_⟩
            by_cases c : v = j
            · subst c
              by_cases d : v ∈ ks7.map (·.1)
              · exact d
              · exact absurd (show (decide (0 < M p v) && !decide (v ∈ ks7.map (·.1))) = true by rw [decide_eq_true hMv, decide_eq_false d]; rfl) hb
            · exact cl7 v (by omega) hMv
        · rintro σ H7 ⟨G7, ks7, fnd7, v6, rfl, e7, S7, B7, len7, pk7, cl7⟩
          exact ⟨G7, ks7, fnd7, _, _, rfl, e7, S7, B7.next hp (fun v hv hMv => cl7 v hv hMv), len7⟩
      · rintro σ H6 ⟨G6, ks6, fnd6, v5, v6, rfl, e6, S6, B6, len6⟩
        rw [List.length_map, rowI_len] at B6
        have kl6 := B6.way.len hlt
        refine ⟨_, rfl, 2 * (n - ks6.length) + (if fnd6 = [] then 0 else 1), ?_, ?_⟩
        · by_cases c : fnd6 = []
          · rw [if_pos c, len6, c]
            show 2 * (n - (ks.length + 0)) + 0 < _
            omega
          · have := List.length_pos_iff.mpr c
            rw [if_neg c]
            omega
        · rw [hW]
          exact ⟨Fd, G6, ks6, fnd6, _, _, _, _, rfl, e05.trans e6, S6.drop2, B6.turn, rfl⟩
    · have he : lay = [] := by
        cases lay with
        | nil => rfl
        | cons x r => exact absurd (decide_eq_true (show (0 : Int) < (((rowI (x :: r)).map V.int).length : Nat) by rw [List.length_map, rowI_len, List.length_cons]; omega)) hc
      subst he
      exact ⟨_, rfl, q H3 D ks (e3.trans S3.ex) (Evl.fresh_back e3 (S3.fr 1 rfl)) (S3.get 1 rfl) B.full⟩
end
end TW
set_option Elab.async false
set_option linter.all false
set_option maxRecDepth 100000
set_option maxHeartbeats 1000000
namespace TW
open PySem PySem.Spec PyProof.Rows L2
/-! pieces -/
def pieceN (n : Nat) (h : Nat → Nat) (top : Nat) : List Nat := (List.range n).filter fun k => decide (h k = top)
def topsN (n : Nat) (h : Nat → Nat) : List Nat := (List.range n).filter fun k => decide (h k = k)
def piecesN (n : Nat) (h : Nat → Nat) (i : Nat) : List (List Nat) := (topsN i h).map (pieceN n h)
theorem piece_len (n : Nat) (h : Nat → Nat) (top : Nat) : (pieceN n h top).length ≤ n := Nat.le_trans (List.length_filter_le _ _) (by rw [List.length_range]; exact Nat.le_refl _)
theorem tops_len (n : Nat) (h : Nat → Nat) : (topsN n h).length ≤ n := Nat.le_trans (List.length_filter_le _ _) (by rw [List.length_range]; exact Nat.le_refl _)
theorem tops_up (i : Nat) (h : Nat → Nat) : topsN (i + 1) h = topsN i h ++ (if h i = i then [i] else []) := by
  unfold topsN
  rw [List.range_succ, List.filter_append]
  congr 1
  by_cases c : h i = i
  · rw [if_pos c, List.filter_cons_of_pos (p := fun k => decide (h k = k)) (decide_eq_true c)]
    rfl
  · rw [if_neg c, List.filter_cons_of_neg (p := fun k => decide (h k = k)) (by rw [decide_eq_false c]; decide)]
    rfl
theorem pieces_up (n i : Nat) (h : Nat → Nat) : piecesN n h (i + 1) = piecesN n h i ++ (if h i = i then [pieceN n h i] else []) := by
  unfold piecesN
  rw [tops_up, List.map_append]
  congr 1
  split <;> rfl
theorem pieces_len (n i : Nat) (h : Nat → Nat) : (piecesN n h i).length ≤ i := by
  unfold piecesN
  rw [List.length_map]
  exact tops_len i h
theorem mem_piece {n : Nat} {h : Nat → Nat} {top k : Nat} : k ∈ pieceN n h top ↔ k < n ∧ h k = top := by
  unfold pieceN
  rw [List.mem_filter, List.mem_range, decide_eq_true_eq]
theorem in_pieces {n : Nat} {ts : List Arc} {h : Nat → Nat} (H : HdOk n ts h) {i : Nat} (hi : i < n) : ((piecesN n h i).any fun p => decide ((i : Int) ∈ rowI p)) = !decide (h i = i) := by
  rw [Bool.eq_iff_iff, List.any_eq_true, Bool.not_eq_true', decide_eq_false_iff_not]
  have hm : ∀ p : List Nat, (i : Int) ∈ rowI p ↔ i ∈ p := fun p => by
    unfold rowI
    rw [List.mem_map]
    constructor
    · rintro ⟨k, hk, e⟩
      rw [← (by omega : k = i)]
      exact hk
    · intro h
      exact ⟨i, h, rfl⟩
  constructor
  · rintro ⟨p, hp, d⟩ e
    have d := (hm p).mp (of_decide_eq_true d)
    obtain ⟨top, ht, rfl⟩ := List.mem_map.mp hp
    have q := (mem_piece.mp d).2
    have lt := List.mem_range.mp (List.mem_filter.mp ht).1
    omega
  · intro c
    have le := H.le hi
    refine ⟨pieceN n h (h i), List.mem_map.mpr ⟨h i, List.mem_filter.mpr ⟨List.mem_range.mpr (by omega), decide_eq_true (H.twice hi)⟩, rfl⟩, decide_eq_true ((hm _).mpr (mem_piece.mpr ⟨hi, rfl⟩))⟩
theorem piece_up (n : Nat) (h : Nat → Nat) (top : Nat) : (rowI (pieceN n h top)).Pairwise (· < ·) := by
  unfold rowI pieceN
  rw [List.pairwise_map]
  exact (List.pairwise_lt_range.filter _).imp fun h => by omega
/-- sorted, what can be reached from a least place is its piece -/
theorem sorted_piece {n : Nat} {ts : List Arc} {h : Nat → Nat} (H : HdOk n ts h) {i : Nat} (hi : i < n) (top : h i = i) {ks : List (Nat × Option Nat)} (F : FullW n (conM ts) [i] ks) {ys : List Int} (pm : ys.Perm (rowI (ks.map (·.1)))) (up : ys.Pairwise (· ≤ ·)) : ys = rowI (pieceN n h i) := by
  have hS : ∀ s ∈ [i], s < n := fun s hs => by rw [List.mem_singleton.mp hs]; exact hi
  have nd : ys.Nodup := pm.nodup_iff.mpr (rowI_nd F.way.nd)
  have up2 : ys.Pairwise (· < ·) := up.imp₂ (fun {a b} h1 h2 => by
    have h2 : a ≠ b := h2
    omega) nd
  refine strict_ext (fun a b h1 h2 => by omega) up2 (piece_up n h i) fun z => ?_
  rw [pm.mem_iff]
  unfold rowI
  rw [List.mem_map, List.mem_map]
  constructor
  · rintro ⟨k, hk, e⟩
    obtain ⟨s, hs, r⟩ := (F.mem hS k).mp hk
    rw [List.mem_singleton.mp hs] at r
    exact ⟨k, mem_piece.mpr ⟨r.r, by rw [← top]; exact ((H.eq_iff hi r.r).mpr r).symm⟩, e⟩
  · rintro ⟨k, hk, e⟩
    obtain ⟨h1, h2⟩ := mem_piece.mp hk
    exact ⟨k, (F.mem hS k).mpr ⟨i, List.mem_cons_self, (H.eq_iff hi h1).mp (by rw [top, h2])⟩, e⟩
theorem Has.sinkL {H : Hp} {l : List (Addr × HO)} : ∀ {l1 : List (Addr × HO)} {G : Hp}, Has G H (l1 ++ l) → ∃ G1, Ex G G1 ∧ (∀ q ∈ l1, G1 q.1 = some q.2) ∧ Has G1 H l
  | [], G, S => ⟨G, Evl.Ex.refl _, fun q h => absurd h List.not_mem_nil, S⟩
  | r :: l1, G, S => by
    obtain ⟨G1, e1, h1, S1⟩ := Has.sinkG (t := r.1) (u := r.2) (l := l1 ++ l) S
    obtain ⟨G2, e2, h2, S2⟩ := Has.sinkL S1
    refine ⟨G2, e1.trans e2, fun q hq => ?_, S2⟩
    rcases List.mem_cons.mp hq with e | e
    · rw [e]
      exact e2 _ _ h1
    · exact h2 q e
theorem Has.sinkRooms {G H : Hp} {l : List (Addr × HO)} {as : List Addr} {M : Nat → Nat → Int} {n : Nat} {R : Addr} (S : Has G H ((R, .lst (refsA as)) :: (rowsC as M n ++ l))) (la : as.length = n) : ∃ G1, Ex G G1 ∧ RoomsAt G1 R n M ∧ Has G1 H l := by
  obtain ⟨G1, e1, h1, S1⟩ := Has.sinkL (l1 := (R, .lst (refsA as)) :: rowsC as M n) S
  exact ⟨G1, e1, ⟨as, h1 (R, .lst (refsA as)) List.mem_cons_self, la, fun i a ha => h1 (a, .lst ((rowM M n i).map V.int)) (List.mem_cons_of_mem _ (rowsC_mem.mpr ⟨i, ha, rfl⟩))⟩, S1⟩
section
variable {P : Program} {w : World} {K : PySem.W.Frag} {mg : Str → Option Value} {base : Heap} {C N : Addr}
abbrev NPI : List Str := ["web", "rooms", "found", "place", "piece"]
def spPieces (C : Addr) : Sp := fun vs H Q _ => ∃ (G : Hp) (l : List (Addr × HO)) (a : Addr) (n : Nat) (ts : List Arc) (h : Nat → Nat), vs = [.ref a] ∧ Has G H l ∧ WebAt C G a n ts ∧ Net n ts ∧ n < 64 ∧ HdOk n ts h ∧
  ∀ (G' H' : Hp) (u : Addr) (ys : List V), Ex G G' → Has G' H' ((u, .lst ys) :: l) → Ats G' ys ((piecesN n h n).map fun p => tupD (rowI p)) → Q (.ref u) H'
end
end TW
set_option Elab.async false
set_option linter.all false
set_option maxRecDepth 100000
set_option maxHeartbeats 1000000
namespace TW
open PySem PySem.Spec PyProof.Rows L2
/-! flows: what has room is kept as a matrix; the cut of a side is the worth and what has room out of it -/
def wZ (b : Bool) (x : Int) : Int := if b = true then x else 0
def sumR (n : Nat) (g : Nat → Int) : Int := ((List.range n).map g).sum
theorem sum_snocZ (l : List Int) (x : Int) : (l ++ [x]).sum = l.sum + x := by
  induction l with
  | nil => simp
  | cons y l ih => rw [List.cons_append, List.sum_cons, List.sum_cons, ih]; omega
theorem sumR_succ (n : Nat) (g : Nat → Int) : sumR (n + 1) g = sumR n g + g n := by
  unfold sumR
  rw [List.range_succ, List.map_append]
  exact sum_snocZ _ _
theorem sumR_congr {n : Nat} {g h : Nat → Int} (e : ∀ k, k < n → g k = h k) : sumR n g = sumR n h := by
  unfold sumR
  rw [List.map_congr_left fun k hk => e k (List.mem_range.mp hk)]
theorem sumR_upd {i : Nat} {g h : Nat → Int} (e : ∀ k, k ≠ i → h k = g k) : ∀ {n : Nat}, i < n → sumR n h = sumR n g + (h i - g i)
  | 0, hi => absurd hi (Nat.not_lt_zero i)
  | n + 1, hi => by
    rw [sumR_succ, sumR_succ]
    by_cases c : i = n
    · rw [sumR_congr (g := h) (h := g) fun k hk => e k (by omega), c]
      omega
    · rw [sumR_upd e (show i < n by omega), e n (fun q => c q.symm)]
      omega
theorem sumR_add {g h : Nat → Int} : ∀ n, sumR n (fun k => g k + h k) = sumR n g + sumR n h
  | 0 => rfl
  | n + 1 => by rw [sumR_succ, sumR_succ, sumR_succ, sumR_add n]; omega
theorem sumR_nn {g : Nat → Int} : ∀ {n : Nat}, (∀ k, k < n → 0 ≤ g k) → 0 ≤ sumR n g
  | 0, _ => Int.le_refl 0
  | n + 1, h => by
    rw [sumR_succ]
    have := sumR_nn (n := n) fun k hk => h k (by omega)
    have := h n (by omega)
    omega
theorem sumR_zero {g : Nat → Int} : ∀ {n : Nat}, (∀ k, k < n → g k = 0) → sumR n g = 0
  | 0, _ => rfl
  | n + 1, h => by
    rw [sumR_succ, sumR_zero (n := n) fun k hk => h k (by omega), h n (by omega)]
    rfl
/-- no sum of naturals is 0 but that of zeros -/
theorem sumR_pos {g : Nat → Int} : ∀ {n : Nat}, (∀ k, k < n → 0 ≤ g k) → sumR n g = 0 → ∀ k, k < n → g k = 0
  | 0, _, _ => fun k hk => absurd hk (Nat.not_lt_zero k)
  | n + 1, h, e => fun k hk => by
    rw [sumR_succ] at e
    have h1 := sumR_nn (n := n) fun k hk => h k (by omega)
    have h2 := h n (by omega)
    by_cases c : k = n
    · rw [c]; omega
    · exact sumR_pos (n := n) (fun k hk => h k (by omega)) (by omega) k (by omega)
/-- what has room from the places of f to the others -/
def rcM (n : Nat) (M : Nat → Nat → Int) (f : Nat → Bool) : Int := sumR n fun a => sumR n fun b => wZ (f a && !f b) (M a b)
theorem rc_put {n i j : Nat} (hi : i < n) (hj : j < n) (M : Nat → Nat → Int) (y : Int) (f : Nat → Bool) : rcM n (putM M i j y) f = rcM n M f + wZ (f i && !f j) (y - M i j) := by
  have inner := sumR_upd (n := n) (i := j) (g := fun b => wZ (f i && !f b) (M i b)) (h := fun b => wZ (f i && !f b) (putM M i j y i b)) (fun k hk => by
    unfold putM
    rw [if_neg fun q => hk q.2]) hj
  have outer := sumR_upd (n := n) (i := i) (g := fun a => sumR n fun b => wZ (f a && !f b) (M a b)) (h := fun a => sumR n fun b => wZ (f a && !f b) (putM M i j y a b)) (fun k hk => sumR_congr fun b _ => by
    unfold putM
    rw [if_neg fun q => hk q.1]) hi
  have e : putM M i j y i j = y := by
    unfold putM
    rw [if_pos ⟨rfl, rfl⟩]
  unfold rcM
  rw [outer, inner, e]
  simp only [wZ]
  split <;> omega
theorem rc_add (n : Nat) (M N : Nat → Nat → Int) (f : Nat → Bool) : rcM n (fun a b => M a b + N a b) f = rcM n M f + rcM n N f := by
  unfold rcM
  rw [← sumR_add]
  refine sumR_congr fun a _ => ?_
  rw [← sumR_add]
  refine sumR_congr fun b _ => ?_
  show (if (f a && !f b) = true then M a b + N a b else 0) = (if (f a && !f b) = true then M a b else 0) + (if (f a && !f b) = true then N a b else 0)
  split <;> omega
theorem rc_congr {n : Nat} {M N : Nat → Nat → Int} (h : ∀ a b, a < n → b < n → M a b = N a b) (f : Nat → Bool) : rcM n M f = rcM n N f := sumR_congr fun a ha => sumR_congr fun b hb => by rw [h a b ha hb]
theorem rc_nn {n : Nat} {M : Nat → Nat → Int} (h : ∀ a b, a < n → b < n → 0 ≤ M a b) (f : Nat → Bool) : 0 ≤ rcM n M f := sumR_nn fun a ha => sumR_nn fun b hb => by
  unfold wZ
  split
  · exact h a b ha hb
  · exact Int.le_refl 0
theorem rc_none (n : Nat) (f : Nat → Bool) : rcM n (fun _ _ => 0) f = 0 := sumR_zero fun a _ => sumR_zero fun b _ => by
  unfold wZ
  split <;> rfl
/-- at first -/
theorem rc_con {n : Nat} (f : Nat → Bool) : ∀ {ts : List Arc}, (∀ t ∈ ts, arcOk n t) → rcM n (conM ts) f = (cutA ts f : Nat)
  | [], _ => rc_none n f
  | t :: ts, h => by
    obtain ⟨h1, h2, h3⟩ := h t List.mem_cons_self
    have ih := rc_con f (ts := ts) fun s hs => h s (List.mem_cons_of_mem _ hs)
    rw [cutA_cons]
    have e : ∀ a b, conM (t :: ts) a b = putM (putM (fun _ _ => 0) t.1 t.2.1 t.2.2) t.2.1 t.1 t.2.2 a b + conM ts a b := fun a b => by
      unfold conM
      rw [wOf_cons]
      have : (if endsA t = (min a b, max a b) then t.2.2 else 0 : Nat) = putM (putM (fun _ _ => 0) t.1 t.2.1 (t.2.2 : Int)) t.2.1 t.1 (t.2.2 : Int) a b := by
        unfold putM endsA
        by_cases c1 : a = t.2.1 ∧ b = t.1
        · rw [if_pos c1, if_pos (by rw [c1.1, c1.2, Prod.mk.injEq]; omega)]
        · rw [if_neg c1]
          by_cases c2 : a = t.1 ∧ b = t.2.1
          · rw [if_pos c2, if_pos (by rw [c2.1, c2.2])]
          · rw [if_neg c2, if_neg (by rw [Prod.mk.injEq]; omega)]
            rfl
      rw [← this]
      push_cast
      rfl
    rw [rc_congr (fun a b _ _ => e a b), rc_add, ih, rc_put h2 h1, rc_put h1 h2, rc_none]
    have e0 : putM (fun _ _ => (0 : Int)) t.1 t.2.1 (t.2.2 : Int) t.2.1 t.1 = 0 := by
      unfold putM
      rw [if_neg (by omega)]
    rw [e0]
    unfold wZ wIf
    cases f t.1 <;> cases f t.2.1 <;> simp
/-! one step, and a row of steps -/
def bZ (b : Bool) : Int := if b = true then 1 else 0
def stepM (M : Nat → Nat → Int) (u v : Nat) (x : Int) : Nat → Nat → Int := putM (putM M u v (M u v - x)) v u (putM M u v (M u v - x) v u + x)
theorem rc_step {n u v : Nat} (hu : u < n) (hv : v < n) (huv : u ≠ v) (M : Nat → Nat → Int) (x : Int) (f : Nat → Bool) : rcM n (stepM M u v x) f = rcM n M f - x * (bZ (f u) - bZ (f v)) := by
  unfold stepM
  rw [rc_put hv hu, rc_put hu hv]
  unfold wZ bZ
  cases f u <;> cases f v <;> simp <;> omega
def dirs : List Nat → List (Nat × Nat)
  | u :: v :: r => (u, v) :: dirs (v :: r)
  | _ => []
theorem dirs_mem : ∀ {row : List Nat} {e : Nat × Nat}, e ∈ dirs row → e.1 ∈ row ∧ e.2 ∈ row
  | [], e, h => absurd h List.not_mem_nil
  | [u], e, h => absurd h List.not_mem_nil
  | u :: v :: r, e, h => by
    rcases List.mem_cons.mp h with q | q
    · rw [q]
      exact ⟨List.mem_cons_self, List.mem_cons_of_mem _ List.mem_cons_self⟩
    · obtain ⟨h1, h2⟩ := dirs_mem q
      exact ⟨List.mem_cons_of_mem _ h1, List.mem_cons_of_mem _ h2⟩
theorem dirs_nd : ∀ {row : List Nat}, row.Nodup → (dirs row).Nodup
  | [], _ => List.Pairwise.nil
  | [u], _ => List.Pairwise.nil
  | u :: v :: r, nd => by
    obtain ⟨h1, h2⟩ := List.nodup_cons.mp nd
    exact List.nodup_cons.mpr ⟨fun h => h1 (dirs_mem h).1, dirs_nd h2⟩
theorem dirs_ne : ∀ {row : List Nat}, row.Nodup → ∀ e ∈ dirs row, e.1 ≠ e.2
  | [], _ => fun e h => absurd h List.not_mem_nil
  | [u], _ => fun e h => absurd h List.not_mem_nil
  | u :: v :: r, nd => fun e h => by
    obtain ⟨h1, h2⟩ := List.nodup_cons.mp nd
    rcases List.mem_cons.mp h with q | q
    · rw [q]
      intro c
      exact h1 (by rw [show u = v from c]; exact List.mem_cons_self)
    · exact dirs_ne h2 e q
theorem dirs_zip : ∀ row : List Nat, row.zip row.tail = dirs row
  | [] => rfl
  | [u] => rfl
  | u :: v :: r => by
    show (u, v) :: (v :: r).zip r = _
    rw [show (v :: r).zip r = (v :: r).zip (v :: r).tail from rfl, dirs_zip (v :: r)]
    rfl
def stepsM (x : Int) (M : Nat → Nat → Int) (L : List (Nat × Nat)) : Nat → Nat → Int := L.foldl (fun M e => stepM M e.1 e.2 x) M
theorem rc_row {n : Nat} (x : Int) (f : Nat → Bool) : ∀ (row : List Nat) (M : Nat → Nat → Int) {u w : Nat}, (∀ e ∈ dirs row, e.1 < n ∧ e.2 < n ∧ e.1 ≠ e.2) → row.head? = some u → row.getLast? = some w → rcM n (stepsM x M (dirs row)) f = rcM n M f - x * (bZ (f u) - bZ (f w))
  | [], M, u, w, h, h1, h2 => by cases h1
  | [v], M, u, w, h, h1, h2 => by
    have e1 : v = u := Option.some.inj h1
    have e2 : v = w := Option.some.inj h2
    subst e1
    subst e2
    show rcM n M f = _
    have : x * (bZ (f v) - bZ (f v)) = 0 := by rw [Int.sub_self, Int.mul_zero]
    omega
  | a :: b :: r, M, u, w, h, h1, h2 => by
    cases h1
    obtain ⟨k1, k2, k3⟩ := h (a, b) List.mem_cons_self
    have k1 : a < n := k1
    have k2 : b < n := k2
    have k3 : a ≠ b := k3
    have ih := rc_row x f (b :: r) (stepM M a b x) (u := b) (w := w) (fun e he => h e (List.mem_cons_of_mem _ he)) rfl (by rw [List.getLast?_cons_cons] at h2; exact h2)
    show rcM n (stepsM x (stepM M a b x) (dirs (b :: r))) f = _
    rw [ih, rc_step k1 k2 k3]
    have : x * (bZ (f a) - bZ (f w)) = x * (bZ (f a) - bZ (f b)) + x * (bZ (f b) - bZ (f w)) := by rw [← Int.mul_add]; congr 1; omega
    omega
theorem steps_nn {n : Nat} {x : Int} (hx : 0 ≤ x) : ∀ (L : List (Nat × Nat)) (M : Nat → Nat → Int), L.Nodup → (∀ e ∈ L, e.1 ≠ e.2 ∧ x ≤ M e.1 e.2) → (∀ a b, a < n → b < n → 0 ≤ M a b) → ∀ a b, a < n → b < n → 0 ≤ stepsM x M L a b
  | [], M, _, _, h => h
  | e :: L, M, nd, hL, h => by
    obtain ⟨n1, n2⟩ := List.nodup_cons.mp nd
    obtain ⟨k1, k2⟩ := hL e List.mem_cons_self
    have grow : ∀ a b, (a, b) ≠ e → M a b ≤ stepM M e.1 e.2 x a b := fun a b hne => by
      unfold stepM
      have c1 : ¬ (a = e.1 ∧ b = e.2) := fun q => hne (Prod.ext q.1 q.2)
      unfold putM
      rw [if_neg c1]
      by_cases c2 : a = e.2 ∧ b = e.1
      · rw [if_pos c2, if_neg (show ¬ (e.2 = e.1 ∧ e.1 = e.2) from fun q => c1 ⟨c2.1.trans q.1, c2.2.trans q.2⟩), c2.1, c2.2]
        omega
      · rw [if_neg c2]
        exact Int.le_refl _
    refine steps_nn hx L (stepM M e.1 e.2 x) n2 (fun p hp => ⟨(hL p (List.mem_cons_of_mem _ hp)).1, ?_⟩) (fun a b ha hb => ?_)
    · have := grow p.1 p.2 (fun q => n1 (q ▸ hp))
      have := (hL p (List.mem_cons_of_mem _ hp)).2
      omega
    · by_cases c : (a, b) = e
      · subst c
        have k1 : a ≠ b := k1
        have k2 : x ≤ M a b := k2
        show 0 ≤ stepM M a b x a b
        unfold stepM putM
        rw [if_neg (fun q => k1 q.1), if_pos ⟨rfl, rfl⟩]
        omega
      · have := grow a b c
        have := h a b ha hb
        omega
/-! a flow of this worth stands -/
def goesB (S T : List Nat) (f : Nat → Bool) : Prop := (∀ s ∈ S, f s = true) ∧ (∀ t ∈ T, f t = false)
structure Flow (ts : List Arc) (n : Nat) (S T : List Nat) (M : Nat → Nat → Int) (W : Int) : Prop where
  nn : ∀ a b, a < n → b < n → 0 ≤ M a b
  eq : ∀ f, goesB S T f → ((cutA ts f : Nat) : Int) = W + rcM n M f
theorem flow_first {ts : List Arc} {n : Nat} (h : ∀ t ∈ ts, arcOk n t) (S T : List Nat) : Flow ts n S T (conM ts) 0 := ⟨fun a b _ _ => by unfold conM; omega, fun f _ => by rw [rc_con f h]; omega⟩
/-- a row from the one to the other -/
structure RowW (n : Nat) (M : Nat → Nat → Int) (S T : List Nat) (row : List Nat) : Prop where
  nd : row.Nodup
  lt : ∀ k ∈ row, k < n
  room : ∀ e ∈ dirs row, 0 < M e.1 e.2
  hd : ∃ s ∈ S, row.head? = some s
  lst : ∃ t ∈ T, row.getLast? = some t
theorem Flow.aug {ts : List Arc} {n : Nat} {S T : List Nat} {M : Nat → Nat → Int} {W x : Int} {row : List Nat} (F : Flow ts n S T M W) (R : RowW n M S T row) (hx : 0 ≤ x) (le : ∀ e ∈ dirs row, x ≤ M e.1 e.2) : Flow ts n S T (stepsM x M (dirs row)) (W + x) := by
  have ok : ∀ e ∈ dirs row, e.1 < n ∧ e.2 < n ∧ e.1 ≠ e.2 := fun e he => ⟨R.lt _ (dirs_mem he).1, R.lt _ (dirs_mem he).2, dirs_ne R.nd e he⟩
  refine ⟨steps_nn hx _ _ (dirs_nd R.nd) (fun e he => ⟨(ok e he).2.2, le e he⟩) F.nn, fun f hf => ?_⟩
  obtain ⟨s, hs, h1⟩ := R.hd
  obtain ⟨t, ht, h2⟩ := R.lst
  rw [rc_row x f row M ok h1 h2, hf.1 s hs, hf.2 t ht, F.eq f hf]
  show _ = W + x + (rcM n M f - x * (1 - 0))
  omega
theorem Flow.le {ts : List Arc} {n : Nat} {S T : List Nat} {M : Nat → Nat → Int} {W : Int} (F : Flow ts n S T M W) {f : Nat → Bool} (hf : goesB S T f) : W ≤ ((cutA ts f : Nat) : Int) := by
  have := F.eq f hf
  have := rc_nn F.nn f
  omega
open Classical in
/-- what can be reached -/
noncomputable def rchB (n : Nat) (M : Nat → Nat → Int) (S : List Nat) (k : Nat) : Bool := decide (∃ s ∈ S, Rch n M s k)
open Classical in
theorem Flow.done {ts : List Arc} {n : Nat} {S T : List Nat} {M : Nat → Nat → Int} {W : Int} (F : Flow ts n S T M W) (hS : ∀ s ∈ S, s < n) (no : ∀ t ∈ T, ¬ ∃ s ∈ S, Rch n M s t) : goesB S T (rchB n M S) ∧ ((cutA ts (rchB n M S) : Nat) : Int) = W := by
  have g : goesB S T (rchB n M S) := ⟨fun s hs => decide_eq_true ⟨s, hs, .refl (hS s hs)⟩, fun t ht => decide_eq_false (no t ht)⟩
  refine ⟨g, ?_⟩
  rw [F.eq _ g]
  have : rcM n M (rchB n M S) = 0 := sumR_zero fun a ha => sumR_zero fun b hb => by
    unfold wZ
    split
    · next h =>
      obtain ⟨h1, h2⟩ := Bool.and_eq_true_iff.mp h
      obtain ⟨s, hs, r⟩ := of_decide_eq_true h1
      have h3 : rchB n M S b = false := by
        cases hb : rchB n M S b with
        | false => rfl
        | true => rw [hb] at h2; cases h2
      have h4 := of_decide_eq_false h3
      have := F.nn a b ha hb
      by_cases c : 0 < M a b
      · exact absurd ⟨s, hs, r.step hb c⟩ h4
      · omega
    · rfl
  omega
end TW
set_option Elab.async false
set_option linter.all false
set_option maxRecDepth 100000
set_option maxHeartbeats 1000000
namespace TW
open PySem PySem.Spec PyProof.Rows L2
theorem way_at {n : Nat} {M : Nat → Nat → Int} {S : List Nat} {ks : List (Nat × Option Nat)} (h : Way n M S ks) : ∀ (i v : Nat) (o : Option Nat), ks[i]? = some (v, o) → (o = none → v ∈ S) ∧ (∀ u : Nat, o = some u → ∃ (j : Nat) (o' : Option Nat), j < i ∧ ks[j]? = some (u, o') ∧ 0 < M u v) := by
  have pick : ∀ {l : List (Nat × Option Nat)} {e : Nat × Option Nat} {i : Nat} {x : Nat × Option Nat}, (l ++ [e])[i]? = some x → l[i]? = some x ∨ (i = l.length ∧ x = e) := fun {l e i x} h => by
    rw [List.getElem?_append] at h
    split at h
    · exact .inl h
    · next c =>
      have : i - l.length = 0 := by
        have := (List.getElem?_eq_some_iff.mp h).1
        rw [List.length_singleton] at this
        omega
      rw [this] at h
      exact .inr ⟨by omega, (Option.some.inj h).symm⟩
  have keep : ∀ {l : List (Nat × Option Nat)} {e : Nat × Option Nat} {j : Nat} {x : Nat × Option Nat}, l[j]? = some x → (l ++ [e])[j]? = some x := fun {l e j x} h => by
    rw [List.getElem?_append_left (List.getElem?_eq_some_iff.mp h).1]
    exact h
  induction h with
  | nil => intro i v o h; cases h
  | start w hs hn ih =>
    intro i v o h
    rcases pick h with q | ⟨_, q⟩
    · obtain ⟨h1, h2⟩ := ih i v o q
      exact ⟨h1, fun u e => by
        obtain ⟨j, o', k1, k2, k3⟩ := h2 u e
        exact ⟨j, o', k1, keep k2, k3⟩⟩
    · cases q
      exact ⟨fun _ => hs, fun u e => nomatch e⟩
  | step w hu hv hn hM ih =>
    intro i v o h
    rcases pick h with q | ⟨hi, q⟩
    · obtain ⟨h1, h2⟩ := ih i v o q
      exact ⟨h1, fun u e => by
        obtain ⟨j, o', k1, k2, k3⟩ := h2 u e
        exact ⟨j, o', k1, keep k2, k3⟩⟩
    · cases q
      refine ⟨fun e => absurd e (by simp), fun u e => ?_⟩
      cases e
      obtain ⟨x, hx, e1⟩ := List.mem_map.mp hu
      obtain ⟨j, hj⟩ := List.mem_iff_getElem?.mp hx
      have lj := (List.getElem?_eq_some_iff.mp hj).1
      exact ⟨j, x.2, by omega, keep (by rw [hj, ← e1]), hM⟩
theorem valW_at : ∀ {ks : List (Nat × Option Nat)} {i v : Nat} {o : Option Nat}, (ks.map (·.1)).Nodup → ks[i]? = some (v, o) → valV (ks.map entW) (Sum.inl (v : Int)) = some (aheadV o)
  | [], i, v, o, _, h => by cases h
  | e :: ks, i, v, o, nd, h => by
    obtain ⟨n1, n2⟩ := List.nodup_cons.mp nd
    cases i with
    | zero =>
      cases h
      rw [List.map_cons, valV_pos (show (entW (v, o)).1 = Sum.inl (v : Int) from rfl)]
      rfl
    | succ i =>
      have h' : ks[i]? = some (v, o) := h
      have hv : v ∈ ks.map (·.1) := List.mem_map.mpr ⟨(v, o), List.mem_of_getElem? h', rfl⟩
      rw [List.map_cons, valV_neg (show ¬ (entW e).1 = Sum.inl (v : Int) from fun q => n1 (by
        have q2 : (e.1 : Int) = (v : Int) := Sum.inl.inj q
        have q3 : e.1 = v := by omega
        show e.1 ∈ _
        rw [q3]
        exact hv)), valW_at n2 h']
theorem rowI_in {row : List Nat} {k : Nat} : (k : Int) ∈ rowI row ↔ k ∈ row := by
  unfold rowI
  rw [List.mem_map]
  exact ⟨fun ⟨j, hj, e⟩ => by rw [show k = j by omega]; exact hj, fun h => ⟨k, h, rfl⟩⟩
theorem aheadV_non (o : Option Nat) : decide (aheadV o = V.non) = o.isNone := by
  cases o with
  | none => rfl
  | some q => exact decide_eq_false fun h => nomatch h
/-- the way back from an end, as far as it is followed: v is reached, tl lies behind it -/
structure BackW (n : Nat) (M : Nat → Nat → Int) (T : List Nat) (ks : List (Nat × Option Nat)) (i v : Nat) (tl : List Nat) : Prop where
  nd : (v :: tl).Nodup
  lt : ∀ k ∈ v :: tl, k < n
  room : ∀ e ∈ dirs (v :: tl), 0 < M e.1 e.2
  lst : ∃ t ∈ T, (v :: tl).getLast? = some t
  far : ∀ k ∈ tl, ∃ j o', i < j ∧ ks[j]? = some (k, o')
theorem BackW.next {n : Nat} {M : Nat → Nat → Int} {S T : List Nat} {ks : List (Nat × Option Nat)} {i v u j : Nat} {tl : List Nat} {o o' : Option Nat} (hw : Way n M S ks) (hS : ∀ s ∈ S, s < n) (B : BackW n M T ks i v tl) (hi : ks[i]? = some (v, o)) (hj : ks[j]? = some (u, o')) (lt : j < i) (hM : 0 < M u v) : BackW n M T ks j u (v :: tl) := by
  have at1 : ∀ {a b c : Nat} {x y : Option Nat}, ks[a]? = some (c, x) → ks[b]? = some (c, y) → a = b := fun {a b c x y} h1 h2 => nodup_at hw.nd (x := c) (by rw [List.getElem?_map, h1]; rfl) (by rw [List.getElem?_map, h2]; rfl)
  refine ⟨List.nodup_cons.mpr ⟨fun h => ?_, B.nd⟩, fun k hk => ?_, fun e he => ?_, ?_, fun k hk => ?_⟩
  · rcases List.mem_cons.mp h with q | q
    · rw [q] at hj
      have := at1 hi hj
      omega
    · obtain ⟨b, y, h1, h2⟩ := B.far u q
      have := at1 hj h2
      omega
  · rcases List.mem_cons.mp hk with q | q
    · rw [q]
      exact hw.lt hS u (List.mem_map.mpr ⟨(u, o'), List.mem_of_getElem? hj, rfl⟩)
    · exact B.lt k q
  · rcases List.mem_cons.mp (show e ∈ (u, v) :: dirs (v :: tl) from he) with q | q
    · rw [q]
      exact hM
    · exact B.room e q
  · obtain ⟨t, h1, h2⟩ := B.lst
    exact ⟨t, h1, by rw [List.getLast?_cons_cons]; exact h2⟩
  · rcases List.mem_cons.mp hk with q | q
    · rw [q]
      exact ⟨i, o, lt, hi⟩
    · obtain ⟨b, y, h1, h2⟩ := B.far k q
      exact ⟨b, y, by omega, h2⟩
section
variable {P : Program} {w : World} {K : PySem.W.Frag} {mg : Str → Option Value} {base : Heap} {C N : Addr}
/-! _shortest_row -/
abbrev NSR : List Str := ["rooms", "must", "never", "ahead", "ends", "row", "place"]
theorem sc__shortest_row : FnScope NSR ["rooms", "must", "never"] (defScope s__shortest_row) := ⟨rfl, rfl, rfl, by decide +kernel, rfl, by decide +kernel, by decide +kernel⟩
def spRow (K : PySem.W.Frag) : Sp := fun vs H Q _ => ∃ (a b R : Addr) (n : Nat) (M : Nat → Nat → Int) (S T : List Nat), vs = [.ref R, .ref a, .ref b] ∧ SqT K H a ((rowI S).map V.int) ∧ SqT K H b ((rowI T).map V.int) ∧ S.Nodup ∧ (∀ s ∈ S, s < n) ∧ n ≤ 1000 ∧ RoomsAt H R n M ∧
  ∀ (H' : Hp) (u : Addr) (row : List Nat), Ex H H' → H u = none → H' u = some (.lst ((rowI row).map V.int)) → (row = [] ∧ (∀ t ∈ T, ¬ ∃ s ∈ S, Rch n M s t)) ∨ RowW n M S T row → Q (.ref u) H'
theorem ok_row (D : Dfn K mg "_shortest_row" s__shortest_row ["rooms", "must", "never"]) (z : Z mg) (O_ways : Ok P w K mg base 1 "ways_from" ["starts", "rooms"] (spWays K)) : Ok P w K mg base 2 "_shortest_row" ["rooms", "must", "never"] (spRow K) := D.ok fun f fd F => by
  refine F.ok sc__shortest_row (fun vs H Q E h => ?_) (fun cdv A outer s H vs Q E hr h => ?_)
  · obtain ⟨a, b, R, n, M, S, T, rfl, _⟩ := h
    rfl
  · obtain ⟨a, b, R, n, M, S, T, rfl, hS, hT, nd, hlt, hn, rm, q⟩ := h
    refine ⟨_, (pss_cons (ps_set (i := 3) sc__shortest_row.nd rfl (Or.inl rfl) (pe_o O_ways hr (pa_cons (pv 1) (pa_cons (pv 0) pa_nil))))
      (pss_cons (ps_lock (ps_setLc (i := 4) (own := [("place", 6)]) (g := gName 6) rfl sc__shortest_row.nd rfl rfl (sw_true rfl rfl rfl (by decide +kernel)) (pi_keys (pv 3)) (blkOk_by (N := NSR) (own := [("place", 6)]) (sc := defScope s__shortest_row) (by decide +kernel)) (fun _ _ _ _ _ => pg_name (i := 6) sc__shortest_row.nd rfl (Or.inl rfl)) (fun _ _ _ _ _ => pts_one (pt_cmpR (op_inK (K := K)) (pv 6) (pv 2) (by rfl))) (fun _ _ _ _ _ => (pv 6))))
      (pss_cons (ps_if (pt_cmpR op_eq (pe_callB call_len_seq (by rfl) z.len PySem.boot_len (pa_cons (pv 4) pa_nil)) pe_int (nomark _)) (pss_one (ps_ret (pe_lst pa_nil))) pss_nil)
      (pss_cons (ps_set (i := 5) sc__shortest_row.nd rfl (Or.inl rfl) (pe_lst (pa_cons (pe_ix ix_list (pv 4) pe_int (fun _ _ => rfl)) pa_nil)))
      (pss_cons (ps_while PassesOwn.never (pt_cmpR op_notN (pe_dget (hu_of hr) (pv 3) (pe_ix ix_list (pv 5) (pe_un un_neg pe_int) (fun _ _ => rfl)) (fun _ _ => rfl)) pe_non (nomark _))
        (pss_one (ps_expr (pe_bm PySem.F.plainAttrs_list PySem.F.slot_list_append PySem.F.type_list_append mt_append (pv 5) (pa_cons (pe_dget (hu_of hr) (pv 3) (pe_ix ix_list (pv 5) (pe_un un_neg pe_int) (fun _ _ => rfl)) (fun _ _ => rfl)) pa_nil)))))
      (pss_one (ps_ret (pe_revL (pv 5))))))))), ?_⟩
    refine ⟨_, rfl, _, rfl, a, R, n, M, S, rfl, .inr hS, nd, hlt, hn, rm, fun H1 Dd ks e1 nD hD FW => ?_⟩
    have S1 : Has H H1 [(Dd, .dK (ks.map entW))] := Has.nil.newE e1 nD hD
    have kl := FW.way.len hlt
    refine ⟨Dd, .dK (ks.map entW), hD, trivial, fun od => ?_⟩
    have S2 : Has H _ [(Dd, .frz od (.dK (ks.map entW)))] := S1.set 0 rfl
    generalize upd H1 Dd (.frz od (.dK (ks.map entW))) = H2 at S2
    refine ⟨_, rfl, Dd, od, rfl, .inl ⟨ks.map entW, S2.get 0 rfl, fun De hDe => ?_⟩⟩
    refine lc_it walk_keys (fun i H' => Has H H' [(De, .lst ((rowI (((ks.map (·.1)).take i).filter fun k => decide (k ∈ T))).map V.int)), (Dd, .frz od (.dK (ks.map entW)))]) (S2.new hDe) (fun i H' _ S' => S'.get 1 rfl) ?_ ?_
    · rintro i x H3 H4 hi S3 ⟨rfl, k, v, hk, rfl⟩
      rw [List.getElem?_map] at hk
      cases he : ks[i]? with
      | none => rw [he] at hk; cases hk
      | some e =>
        rw [he] at hk
        cases hk
        have hk1 : (ks.map (·.1))[i]? = some e.1 := by rw [List.getElem?_map, he]; rfl
        refine ⟨rfl, _, rfl, _, rfl, b, _, rfl, .inr (Evl.ex_t S3.ex hT), rfl, by simp [List.all_map, flatV], _, rfl, ?_⟩
        rw [if_neg (by decide), show inV (kV (Sum.inl (e.1 : Int))) ((rowI T).map V.int) = decide (e.1 ∈ T) from by
          rw [show kV (Sum.inl (e.1 : Int)) = V.int (e.1 : Int) from rfl, inV_int, decide_eq_decide]
          exact rowI_in]
        have ll : (((ks.map (·.1)).take i).filter fun k => decide (k ∈ T)).length ≤ ks.length := by
          have := List.length_filter_le (fun k => decide (k ∈ T)) ((ks.map (·.1)).take i)
          rw [List.length_take, List.length_map] at this
          omega
        cases hc : decide (e.1 ∈ T) with
        | true =>
          refine ⟨_, rfl, _, S3.get 0 rfl, szl (by rw [List.length_map, rowI_len]; omega), ?_⟩
          show Has H _ _
          rw [filt_yes (f := fun k : Nat => decide (k ∈ T)) hk1 hc, ← rowI_snocV]
          exact S3.set 0 rfl
        | false =>
          show Has H _ _
          rw [filt_no (f := fun k : Nat => decide (k ∈ T)) hk1 hc]
          exact S3
    · rintro H3 S3
      rw [List.length_map, show ks.length = (ks.map (·.1)).length from (List.length_map _).symm, List.take_length] at S3
      refine ⟨S3.get 1 rfl, ?_⟩
      have S4 : Has H _ [(De, .lst ((rowI ((ks.map (·.1)).filter fun k => decide (k ∈ T))).map V.int)), (Dd, .dK (ks.map entW))] := S3.set 1 rfl
      generalize upd H3 Dd (.dK (ks.map entW)) = H4 at S4
      generalize hes : ((ks.map (·.1)).filter fun k => decide (k ∈ T)) = es at S4
      refine ⟨_, rfl, De, _, rfl, .inl (Evl.sq_of (S4.get 0 rfl)), rfl, _, rfl, ?_⟩
      refine ite2 (fun hc => ?_) (fun hc => ?_)
      · have e0 : es = [] := by
          have := V.int.inj (of_decide_eq_true hc)
          rw [List.length_map, rowI_len] at this
          exact List.length_eq_zero_iff.mp (by omega)
        refine ⟨sz (by show 0 ≤ 100000; decide), fun u nu => ?_⟩
        refine q _ u [] (S4.ex.trans (Evl.Ex.new nu)) (Evl.fresh_back S4.ex nu) upd_same (.inl ⟨rfl, fun t ht r => ?_⟩)
        have h1 : t ∈ ks.map (·.1) := (FW.mem hlt t).mpr r
        have h2 : t ∈ es := by
          rw [← hes]
          exact List.mem_filter.mpr ⟨h1, decide_eq_true ht⟩
        rw [e0] at h2
        exact absurd h2 List.not_mem_nil
      · have ne : es ≠ [] := fun e => hc (by rw [e]; rfl)
        obtain ⟨v0, es', e1⟩ := List.exists_cons_of_ne_nil ne
        have hv0 : v0 ∈ (ks.map (·.1)).filter fun k => decide (k ∈ T) := by
          rw [hes, e1]
          exact List.mem_cons_self
        obtain ⟨m1, m2⟩ := List.mem_filter.mp hv0
        obtain ⟨x0, hx0, ex0⟩ := List.mem_map.mp m1
        obtain ⟨i0, hi0⟩ := List.mem_iff_getElem?.mp hx0
        have hi0 : ks[i0]? = some (v0, x0.2) := by rw [hi0, ← ex0]
        refine ⟨_, rfl, De, _, 0, _, rfl, rfl, Evl.sq_of (S4.get 0 rfl), atI_nat (j := 0) (show ((rowI es).map V.int)[0]? = some (V.int (v0 : Int)) by rw [e1]; rfl), sz (by show 1 ≤ 100000; decide), fun rw0 nrw => ?_⟩
        obtain ⟨G5, e5, hDd, S5⟩ := ((S4.sub (l' := [(Dd, .dK (ks.map entW))]) (by simp)).new (o := .lst [.int (v0 : Int)]) nrw).swap.sinkG
        have nr0 : H rw0 = none := Evl.fresh_back S4.ex nrw
        generalize upd H4 rw0 (.lst [.int (v0 : Int)]) = H5 at S5
        have B0 : BackW n M T ks i0 v0 [] := ⟨by simp, fun k hk => by
          rw [List.mem_singleton.mp hk]
          exact FW.way.lt hlt v0 m1, fun e he => absurd he List.not_mem_nil, ⟨v0, of_decide_eq_true m2, rfl⟩, fun k hk => absurd hk List.not_mem_nil⟩
        obtain ⟨W, hW⟩ : ∃ W : Nat → L2.St → Hp → Prop, W = fun m σ H' => ∃ (v : Nat) (o : Option Nat) (tl : List Nat), σ = [some (.ref R), some (.ref a), some (.ref b), some (.ref Dd), some (.ref De), some (.ref rw0), none] ∧ Has G5 H' [(rw0, .lst ((rowI ((v :: tl).reverse)).map V.int))] ∧ ks[m]? = some (v, o) ∧ BackW n M T ks m v tl := ⟨_, rfl⟩
        refine ⟨W, ⟨i0, ?_⟩, ?_⟩
        · rw [hW]
          exact ⟨v0, x0.2, [], rfl, S5, hi0, B0⟩
        intro m σ H6 hw
        rw [hW] at hw
        obtain ⟨v, o, tl, rfl, S6, hm, B⟩ := hw
        have last : ((rowI ((v :: tl).reverse)).map V.int) = ((rowI tl.reverse).map V.int) ++ [V.int (v : Int)] := by
          rw [List.reverse_cons, rowI_snocV]
        have get : ∀ {Hq : Hp}, Has G5 Hq [(rw0, .lst ((rowI ((v :: tl).reverse)).map V.int))] → SqL K Hq rw0 ((rowI ((v :: tl).reverse)).map V.int) ∧ atI ((rowI ((v :: tl).reverse)).map V.int) (-1) = some (V.int (v : Int)) ∧ DGet Hq Dd (.int (v : Int)) (some (aheadV o)) := fun {Hq} S => ⟨Evl.sq_of (S.get 0 rfl), by rw [last]; exact atI_last _ _, by
          have := DGet.k (k := Sum.inl (v : Int)) (S.ex _ _ hDd)
          rw [valW_at FW.way.nd hm] at this
          exact this⟩
        have lv : (v :: tl).length ≤ 1000 := by
          have := nodup_lenG B.nd (ys := List.range n) fun k hk => List.mem_range.mpr (B.lt k hk)
          rw [List.length_range] at this
          omega
        obtain ⟨g1, g2, g3⟩ := get S6
        refine ⟨_, rfl, _, rfl, _, rfl, rw0, _, -1, _, rfl, rfl, g1, g2, Dd, _, rfl, g3, rfl, _, rfl, ?_⟩
        rw [aheadV_non]
        have wa := way_at FW.way m v o hm
        cases o with
        | none =>
          refine ⟨_, rfl, rw0, _, rfl, g1, fun u nu => ?_⟩
          have e6 := e5.trans S6.ex
          have nH : H u = none := Evl.fresh_back e6 nu
          have er : ((rowI ((v :: tl).reverse)).map V.int).reverse = (rowI (v :: tl)).map V.int := by
            unfold rowI
            rw [List.map_reverse, List.map_reverse, List.reverse_reverse]
          rw [er]
          exact q _ u (v :: tl) (e6.trans (Evl.Ex.new nu)) nH upd_same (.inr ⟨B.nd, B.lt, B.room, ⟨v, wa.1 rfl, rfl⟩, B.lst⟩)
        | some u =>
          obtain ⟨j, o', lt, hj, hM⟩ := wa.2 u rfl
          refine ⟨fun σ' H' => ∃ m', m' < m ∧ W m' σ' H', fun σ' H' h => h, ?_⟩
          refine ⟨_, rfl, .inl ⟨rfl, _, g1⟩, _, rfl, _, rfl, _, rfl, rw0, _, -1, _, rfl, rfl, g1, g2, Dd, _, rfl, g3, rw0, _, _, rfl, rfl, S6.get 0 rfl, szl (by rw [List.length_map, rowI_len, List.length_reverse]; omega), ?_⟩
          refine ⟨j, lt, ?_⟩
          rw [hW]
          refine ⟨u, o', v :: tl, rfl, ?_, hj, B.next FW.way hlt hm hj lt hM⟩
          rw [List.reverse_cons (a := u), ← rowI_snocV]
          exact S6.set 0 rfl
end
end TW
set_option Elab.async false
set_option linter.all false
set_option maxRecDepth 100000
set_option maxHeartbeats 2000000
/-! list(zip(a, b)), a and b lists -/
namespace TW
open PySem PySem.Spec PyProof.Rows L2
theorem nolen_zip : typeLookup (.type "zip") "__len__" = pure none := by rw [typeLookup_type, builtinLookup_eq_fast]; kernel_rfl
theorem nohint_zip : typeLookup (.type "zip") "__length_hint__" = pure none := by rw [typeLookup_type, builtinLookup_eq_fast]; kernel_rfl
/-- the first of xs and ys stand at as, two by two -/
def PrsAt (H : Hp) (xs ys : List V) (as : List Addr) : Prop := ∀ (j : Nat) (t : Addr), as[j]? = some t → ∃ x y, xs[j]? = some x ∧ ys[j]? = some y ∧ H t = some (.tup [x, y])
section
variable {X : Cx} {pins : List (Addr × Obj)} {σ : L2.St}
theorem zip_loop {A1 : Around} {Rs : Result → Shared → Prop} {a b S z TI TO i1 i2 : Addr} {xs ys : List V} {H0 : Hp} (hc : X.calm = true) (hh : A1.in1.handled = none) (D : ZipApart z TI TO i1 i2 a b) (hqx : SqL X.K H0 a xs) (hqy : SqL X.K H0 b ys) (nS : H0 S = none) (few : min xs.length ys.length ≤ 100000)
    (hdone : ∀ (s : Shared) (H' : Hp) (as : List Addr), Evl.Ex H0 H' → H' S = some (.lst (as.map V.ref)) → (∀ t ∈ as, H0 t = none) → S ∉ as → as.Nodup → as.length = min xs.length ys.length → PrsAt H' xs ys as → Inv X pins σ H' s → Rs (.ok (.ret .none)) s) :
    ∀ (k i : Nat) (s : Shared) (H' : Hp) (as : List Addr), min xs.length ys.length - i = k → i ≤ min xs.length ys.length → Inv X pins σ H' s → Evl.Ex H0 H' → H' S = some (.lst (as.map V.ref)) → (∀ t ∈ as, H0 t = none) → S ∉ as → as.Nodup → as.length = i → PrsAt H' xs ys as → (∀ c ∈ [z, TI, TO, i1, i2], FpOk X pins H' c) → (∀ c ∈ [z, TI, TO, i1, i2], c < s.heap.objs.size) →
      IsPair s.heap TI (.ref i1) (.ref i2) → s.heap.IsListIter i1 a i → s.heap.IsListIter i2 b i → ((i = 0 ∧ IsZip s.heap z TI TO .none ∧ ∃ x y, IsPair s.heap TO x y) ∨ (∃ T f, T ∈ as ∧ IsZipHeld s.heap z TI TO T f)) →
      codeAny (model X.prog X.w) A1 (.builtin "list.extend.loop" ⟨[.ref S, .ref z, .none], []⟩) Rs s := by
  intro k
  induction k with
  | zero =>
    intro i s H' as hk hi I e hS hn hSa nd la hp hf hlt hTI h1 h2 hz
    have ei : i = min xs.length ys.length := by omega
    refine codeAny_builtin PySem.F.entry_extend_loop ?_
    rw [Around.under_plainId PySem.F.plain_extend_loop _]
    show wpAny _ A1.in1 (pyNext (.ref z) >>= _) _ _ s
    obtain ⟨its, rv, p, _⟩ := I.list (Evl.ex_l e hqx)
    obtain ⟨its2, rv2, p2, _⟩ := I.list (Evl.ex_l e hqy)
    have l1 := rv.length
    have l2 := rv2.length
    have he : its.toArray[i]? = none ∨ its2.toArray[i]? = none := by
      by_cases c : xs.length ≤ ys.length
      · exact .inl (by simp; omega)
      · exact .inr (by simp; omega)
    have fin : ∀ h', (∀ c o, c ≠ z → c ≠ TI → c ≠ TO → c ≠ i1 → c ≠ i2 → s.heap.get? c = some o → h'.get? c = some o) → Rs (.ok (.ret .none)) { s with heap := h' } := fun h' hk => hdone _ H' as e hS hn hSa nd (by omega) hp (I.turnedL (t' := s.toks) (ch := [z, TI, TO, i1, i2]) (fun c o hb q =>
      hk c o (fun q' => hb (by simp [q'])) (fun q' => hb (by simp [q'])) (fun q' => hb (by simp [q'])) (fun q' => hb (by simp [q'])) (fun q' => hb (by simp [q'])) q) hf)
    rcases hz with ⟨_, hz, x0, y0, hTO⟩ | ⟨T, f, hT, hz⟩
    · exact wpAny_bind (wpAny_pyNext_zip_end hh D hz hTI hTO h1 h2 p.isList p2.isList he fun h' hk => wpAny_pure (fin h' fun c o c1 c2 c3 c4 c5 q => hk c o c1 c3 c4 c5 q))
    · obtain ⟨j, hj⟩ := List.mem_iff_getElem?.mp hT
      obtain ⟨x, y, _, _, hTt⟩ := hp j T hj
      obtain ⟨_, itsT, rvT, oT, hoT, _⟩ := (show ObjOk X.prog X.w H' s.heap T (.tup [x, y]) from I.hok T _ hTt)
      exact wpAny_bind (wpAny_pyNext_zip_end_held hh D hz hoT hTI h1 h2 p.isList p2.isList he fun h' hk => wpAny_pure (fin h' fun c o c1 c2 c3 c4 c5 q => hk c o c1 c4 c5 q))
  | succ k ih =>
    intro i s H' as hk hi I e hS hn hSa nd la hp hf hlt hTI h1 h2 hz
    refine codeAny_builtin PySem.F.entry_extend_loop ?_
    rw [Around.under_plainId PySem.F.plain_extend_loop _]
    show wpAny _ A1.in1 (pyNext (.ref z) >>= _) _ _ s
    obtain ⟨its, rv, p, _⟩ := I.list (Evl.ex_l e hqx)
    obtain ⟨its2, rv2, p2, _⟩ := I.list (Evl.ex_l e hqy)
    have lx : i < xs.length := by omega
    have ly : i < ys.length := by omega
    have hx : xs[i]? = some xs[i] := List.getElem?_eq_getElem lx
    have hy : ys[i]? = some ys[i] := List.getElem?_eq_getElem ly
    obtain ⟨u, hu, ru⟩ := rv.get hx
    obtain ⟨u2, hu2, ru2⟩ := rv2.get hy
    have nx : ∀ (Q : Option Value → Shared → Prop) (E : Value → Shared → Prop), (∀ h', (∃ T f, (T = s.heap.objs.size ∨ T ∈ as) ∧ IsZipHeld h' z TI TO T f) → IsPair h' TI (.ref i1) (.ref i2) → h'.IsListIter i1 a (i + 1) → h'.IsListIter i2 b (i + 1) → IsPair h' s.heap.objs.size u u2 →
        (∀ c o, c ≠ z → c ≠ TI → c ≠ TO → c ≠ i1 → c ≠ i2 → s.heap.get? c = some o → h'.get? c = some o) → Q (some (.ref s.heap.objs.size)) { s with heap := h' }) → wpAny (model X.prog X.w) A1.in1 (pyNext (.ref z)) Q E s := by
      intro Q E next
      rcases hz with ⟨_, hz, x0, y0, hTO⟩ | ⟨T, f, hT, hz⟩
      · refine wpAny_pyNext_zip_item D hz hTI hTO h1 h2 p.isList p2.isList (x := u) (y := u2) (by simpa using hu) (by simpa using hu2) fun h' z' TO' h1' h2' hT hsz hk => ?_
        exact next h' ⟨_, false, .inl rfl, z'⟩ (hk _ _ D.TIz D.TITO D.TIi1 D.TIi2 hTI) h1' h2' hT fun c o c1 c2 c3 c4 c5 q => hk c o c1 c3 c4 c5 q
      · obtain ⟨j, hj⟩ := List.mem_iff_getElem?.mp hT
        obtain ⟨x, y, _, _, hTt⟩ := hp j T hj
        obtain ⟨_, itsT, rvT, oT, hoT, _⟩ := (show ObjOk X.prog X.w H' s.heap T (.tup [x, y]) from I.hok T _ hTt)
        refine wpAny_pyNext_zip_item_held D hz hoT hTI h1 h2 p.isList p2.isList (x := u) (y := u2) (by simpa using hu) (by simpa using hu2) fun h' z' h1' h2' hT' hsz hk => ?_
        exact next h' ⟨T, true, .inr hT, z'⟩ (hk _ _ D.TIz D.TIi1 D.TIi2 hTI) h1' h2' hT' fun c o c1 c2 c3 c4 c5 q => hk c o c1 c4 c5 q
    have keepF : ∀ {c : Addr} {o : Obj} {h' : Heap}, (∀ c o, c ≠ z → c ≠ TI → c ≠ TO → c ≠ i1 → c ≠ i2 → s.heap.get? c = some o → h'.get? c = some o) → c ∉ [z, TI, TO, i1, i2] → s.heap.get? c = some o → h'.get? c = some o := fun {c o h'} hk hb q => hk c o (fun q' => hb (by simp [q'])) (fun q' => hb (by simp [q'])) (fun q' => hb (by simp [q'])) (fun q' => hb (by simp [q'])) (fun q' => hb (by simp [q'])) q
    refine wpAny_bind (nx _ _ fun h' zst TI' h1' h2' hT hk => ?_)
    have newO : ObjOk X.prog X.w (upd H' s.heap.objs.size (.tup [xs[i], ys[i]])) h' s.heap.objs.size (.tup [xs[i], ys[i]]) :=
      ⟨by show 2 ≤ sizeLine; decide, [u, u2], .cons ru (.cons ru2 .nil), ⟨_, hT, rfl, _, rfl⟩⟩
    have I1 : Inv X pins σ (upd H' s.heap.objs.size (.tup [xs[i], ys[i]])) { s with heap := h' } :=
      I.turnedNew (t' := s.toks) (ch := [z, TI, TO, i1, i2]) (fun c o hb q => keepF hk hb q) hf (Nat.le_refl _) newO
    have fr : H' s.heap.objs.size = none := I.hok.fresh (Nat.le_refl _)
    generalize hTe : s.heap.objs.size = T' at *
    have SneT : S ≠ T' := fun q => by rw [q, fr] at hS; cases hS
    have hS1 : upd H' T' (.tup [xs[i], ys[i]]) S = some (.lst (as.map V.ref)) := by rw [upd_ne SneT]; exact hS
    obtain ⟨zz, its7, c7, r7, hl7, e7⟩ := I1.lstM (l := S) hS1
    have i3 : i < sizeLine := by have : sizeLine = 16777216 := sizeLine_eq; omega
    have hl3 : its7.length = i := by rw [← hl7, List.length_map, la]
    show wpAny _ A1.in1 (updateSeq S (·.push (.ref T')) >>= _) _ _ _
    refine wpAny_bind (wpAny_updateSeq e7 rfl (wpAny_pure ⟨plainId_quiet PySem.F.plain_extend_loop _, ?_⟩) (by rw [List.size_toArray]; omega) (by show (its7.toArray.push _).size ≤ sizeLine + 1; rw [Array.size_push, List.size_toArray]; omega))
    have I2 := I1.lset (l := S) (f := (·.push (.ref T'))) (its' := its7 ++ [.ref T']) (ys := as.map V.ref ++ [V.ref T']) (t' := s.toks) hS1 e7 (by simp) (r7.append (.cons (show RelV (.ref T') (.ref T') from rfl) .nil)) (by rw [List.length_append, List.length_map, List.length_singleton]; omega)
    have Tn : T' ∉ as := fun q => by
      obtain ⟨j, hj⟩ := List.mem_iff_getElem?.mp q
      obtain ⟨x, y, _, _, hTt⟩ := hp j T' hj
      rw [fr] at hTt
      cases hTt
    have nT0 : H0 T' = none := Evl.fresh_back e fr
    have offS : ∀ t ∈ as ++ [T'], t ≠ S := fun t ht q => by
      rcases List.mem_append.mp ht with h | h
      · exact hSa (q ▸ h)
      · rw [List.mem_singleton.mp h] at q
        exact SneT q.symm
    have atT : (upd (upd H' T' (.tup [xs[i], ys[i]])) S (.lst (as.map V.ref ++ [V.ref T']))) T' = some (.tup [xs[i], ys[i]]) := by rw [upd_ne (Ne.symm SneT), upd_same]
    have old : ∀ t, t ≠ S → t ≠ T' → (upd (upd H' T' (.tup [xs[i], ys[i]])) S (.lst (as.map V.ref ++ [V.ref T']))) t = H' t := fun t q1 q2 => by rw [upd_ne q1, upd_ne q2]
    have cS : ∀ c ∈ [z, TI, TO, i1, i2], c ≠ S := fun c hcm q => by
      have h := (hf c hcm).1
      rw [q, hS] at h
      cases h
    have lift : ∀ {c : Addr} {o : Obj}, c ≠ S → h'.get? c = some o → (h'.update S (Obj.mapSeq (·.push (.ref T')))).get? c = some o := fun {c o} q1 q2 => (Heap.get?_update_other h' _ (Ne.symm q1)).trans q2
    have hTs : T' < (h'.update S (Obj.mapSeq (·.push (.ref T')))).objs.size := Heap.lt_size (lift (Ne.symm SneT) hT)
    refine ih (i + 1) _ _ (as ++ [T']) (by omega) (by omega) I2 ?_ (by rw [upd_same, List.map_append]; rfl) (fun t ht => ?_) (fun h => offS S h rfl) ?_ (by rw [List.length_append, la]; rfl) (fun j t hj => ?_) (fun c hcm => ?_) (fun c hcm => Nat.lt_trans (hlt c hcm) hTs) ?_ ?_ ?_ ?_
    · exact Evl.Ex.mut (e.trans (Evl.Ex.new fr)) nS
    · rcases List.mem_append.mp ht with h | h
      · exact hn t h
      · rw [List.mem_singleton.mp h]
        exact nT0
    · exact List.nodup_append.mpr ⟨nd, by simp, fun t ht c hcc q => by
        rw [List.mem_singleton.mp hcc] at q
        exact Tn (q ▸ ht)⟩
    · rw [List.getElem?_append] at hj
      split at hj
      · obtain ⟨x, y, q1, q2, q3⟩ := hp j t hj
        have tm := List.mem_of_getElem? hj
        exact ⟨x, y, q1, q2, by rw [old t (fun q => hSa (q ▸ tm)) (fun q => Tn (q ▸ tm))]; exact q3⟩
      · next c =>
        have j0 : j - as.length = 0 := by
          have := (List.getElem?_eq_some_iff.mp hj).1
          rw [List.length_singleton] at this
          omega
        rw [j0] at hj
        have et : T' = t := Option.some.inj hj
        have ej : j = i := by omega
        rw [← et, ej]
        exact ⟨_, _, hx, hy, atT⟩
    · obtain ⟨f1, f2⟩ := hf c hcm
      refine ⟨?_, f2⟩
      rw [old c (cS c hcm) (Nat.ne_of_lt (hlt c hcm))]
      exact f1
    · exact lift (cS TI (by simp)) TI'
    · exact h1'.at fun o q => lift (cS i1 (by simp)) q
    · exact h2'.at fun o q => lift (cS i2 (by simp)) q
    · obtain ⟨T, f, hTm, hzs⟩ := zst
      refine .inr ⟨T, f, ?_, lift (cS z (by simp)) hzs⟩
      rcases hTm with q | q
      · rw [q]
        simp
      · exact List.mem_append_left _ q
/-- list(zip(a, b)) -/
def tListZip (K : PySem.W.Frag) (ta : TA) : TE := fun σ H Q => ta σ H fun vs H1 => ∃ a b xs ys, vs = [.ref a, .ref b] ∧ SqL K H1 a xs ∧ SqL K H1 b ys ∧ min xs.length ys.length ≤ 100000 ∧
  ∀ (H' : Hp) (S : Addr) (as : List Addr), Evl.Ex H1 H' → H1 S = none → H' S = some (.lst (as.map V.ref)) → (∀ t ∈ as, H1 t = none) → S ∉ as → as.Nodup → as.length = min xs.length ys.length → PrsAt H' xs ys as → Q (.ref S) H'
theorem pe_listZip {e e2 : Expr} {ta : TA} {p p2 pos pos2 : Pos} (hc : X.calm = true) (hgl : Gl X "list") (hml : X.mg "list" = none) (hgz : Gl X "zip") (hmz : X.mg "zip" = none) (ha : PA X [e, e2] ta) (hv : bootBuiltins "list" = some (.type "list") := by decide +kernel)
    (hs : starEach [e, e2] X.env = (false, eval e X.env) :: starEach [e2] X.env := by rfl) (hpl : (backTo pos2 (starEach [e2] X.env)).any (·.1) = false := by rfl)
    (hs2 : starEach [.Call (.Name "zip" p2) [e, e2] [] pos2] X.env = (false, eval (.Call (.Name "zip" p2) [e, e2] [] pos2) X.env) :: starEach [] X.env := by rfl) :
    PE X (.Call (.Name "list" p) [.Call (.Name "zip" p2) [e, e2] [] pos2] [] pos) (tListZip X.K ta) := by
  refine ⟨fun pins s σ H Q I h => ?_⟩
  refine wpAny_Call_Name_kw (ld_blt I hgl hml hv ?_)
  refine PyProof.Rows.callWith_type1 ?_ hs2 rfl
  rw [hs2]
  show wpAny _ _ (spliced ((false, eval (.Call (.Name "zip" p2) [e, e2] [] pos2) X.env) :: backTo pos (starEach [] X.env))) _ _ s
  refine Calls.spliced_cons ?_
  refine Call_ (ld_blt I hgz hmz PyProof.Rows.boot_zip (PyProof.Rows.callWith_type1 (thn (ha.run pos2 pins s σ H _ I h) fun us s1 ⟨vs, H1, I1, r1, q1⟩ => ?_) hs hpl))
  obtain ⟨a, b, xs, ys, ex, hqx, hqy, few, q⟩ := q1
  subst ex
  cases r1 with
  | cons r rr =>
    cases rr with
    | cons r' rr =>
      cases rr
      cases r
      cases r'
      obtain ⟨its, rv, p1, _⟩ := I1.list hqx
      obtain ⟨its2, rv2, p2, _⟩ := I1.list hqy
      have la : a < s1.heap.objs.size := p1.lt
      have lb : b < s1.heap.objs.size := p2.lt
      refine call_zip_2 p1.isList p2.isList fun h' hz hTI hTO h1 h2 hsz hk => ?_
      have I2 : Inv X pins σ H1 { s1 with heap := h' } := I1.kept (t' := s1.toks) hk
      have D := PySem.W.ktu_apart s1.heap.objs.size a b la lb
      have hf : ∀ c ∈ [s1.heap.objs.size + 4, s1.heap.objs.size + 2, s1.heap.objs.size + 3, s1.heap.objs.size, s1.heap.objs.size + 1], FpOk X pins H1 c := fun c hcm => by
        have e' : c = s1.heap.objs.size + 4 ∨ c = s1.heap.objs.size + 2 ∨ c = s1.heap.objs.size + 3 ∨ c = s1.heap.objs.size ∨ c = s1.heap.objs.size + 1 := by simpa using hcm
        have hle : s1.heap.objs.size ≤ c := by
          rcases e' with z | z | z | z | z
          · rw [z]; exact Nat.le_add_right _ _
          · rw [z]; exact Nat.le_add_right _ _
          · rw [z]; exact Nat.le_add_right _ _
          · rw [z]; exact Nat.le_refl _
          · rw [z]; exact Nat.le_add_right _ _
        exact I1.fpOk hle (I1.hok.fresh hle)
      refine Calls.spliced_nil ?_
      have hlt : ∀ c ∈ [s1.heap.objs.size + 4, s1.heap.objs.size + 2, s1.heap.objs.size + 3, s1.heap.objs.size, s1.heap.objs.size + 1], c < h'.objs.size := fun c hcm => by
        have e' : c = s1.heap.objs.size + 4 ∨ c = s1.heap.objs.size + 2 ∨ c = s1.heap.objs.size + 3 ∨ c = s1.heap.objs.size ∨ c = s1.heap.objs.size + 1 := by simpa using hcm
        have := Heap.lt_size hz
        omega
      generalize s1.heap.objs.size + 4 = z at *
      generalize s1.heap.objs.size + 2 = TI at *
      generalize s1.heap.objs.size + 3 = TO at *
      generalize s1.heap.objs.size + 1 = i2 at *
      generalize s1.heap.objs.size = i1 at *
      generalize hsd : ({ s1 with heap := h' } : Shared) = sd at I2 ⊢
      have esd : sd.heap = h' := by rw [← hsd]
      rw [← esd] at hz hTI hTO h1 h2 hlt
      refine callType_codes (Q₁ := fun obj s₁ => obj = .ref sd.heap.objs.size ∧ s₁ = { sd with heap := sd.heap.push { cls := .type "list", data := .seq #[] } }) PySem.F.called_list (PySem.F.typeCall_list_1 _) PySem.F.entry_list_init
        (code_list_new _ ⟨rfl, rfl⟩) fun obj s₁ h₁ => ?_
      obtain ⟨rfl, rfl⟩ := h₁
      have hS : (sd.heap.push { cls := .type "list", data := .seq #[] }).get? sd.heap.objs.size = some { cls := .type "list", data := .seq #[] } := Heap.get?_push_size _ rfl
      refine ⟨⟨_, hS, rfl⟩, PySem.F.args_list_init_2 _ _, ?_⟩
      have fr : H1 sd.heap.objs.size = none := I2.hok.fresh (Nat.le_refl _)
      have I3 := I2.lnew (its := []) (ys := []) (t' := sd.toks) .nil (Nat.zero_le _)
      have up : ∀ {c : Addr} {o : Obj}, sd.heap.get? c = some o → (sd.heap.push { cls := .type "list", data := .seq #[] }).get? c = some o := fun {c o} q => Heap.get?_push_of_some _ q
      generalize hSe : sd.heap.objs.size = S at *
      show wpAny _ X.A.in1.in1 (do let old ← Builtin.List.listItems (.ref S); Builtin.List.listUpdate (.ref S) (fun _ => #[]); letGo old.toList.reverse; Builtin.List.listExtendWith (.ref S) (.ref z) .none) _ _ _
      refine wpAny_bind ?_
      unfold Builtin.List.listItems
      refine wpAny_bind (wpAny_seqItems hS rfl (wpAny_pure ?_))
      show wpAny _ _ (updateSeq S (fun _ => #[]) >>= fun _ => letGo (#[] : Array Value).toList.reverse >>= fun _ => Builtin.List.listExtendWith (.ref S) (.ref z) .none) _ _ _
      refine wpAny_bind (wpAny_updateSeq hS rfl ?_)
      have I4 := I3.lset (f := fun _ => #[]) (its := []) (its' := []) (ys := []) (t' := sd.toks) upd_same hS rfl .nil (Nat.zero_le _)
      rw [upd_upd] at I4
      refine wpAny_bind (wpAny_letGo ?_)
      have neS : ∀ c ∈ [z, TI, TO, i1, i2], c ≠ S := fun c hcm q => Nat.lt_irrefl S (q ▸ hlt c hcm)
      have lift : ∀ {c : Addr} {o : Obj}, c ≠ S → sd.heap.get? c = some o → ((sd.heap.push { cls := .type "list", data := .seq #[] }).update S (Obj.mapSeq fun _ => #[])).get? c = some o := fun {c o} q1 q2 => (Heap.get?_update_other _ _ (Ne.symm q1)).trans (up q2)
      have hz4 := lift (neS z (by simp)) hz
      have TI4 := lift (neS TI (by simp)) hTI
      have TO4 := lift (neS TO (by simp)) hTO
      have h14 := h1.at fun o q => lift (neS i1 (by simp)) q
      have h24 := h2.at fun o q => lift (neS i2 (by simp)) q
      have hlt4 : ∀ c ∈ [z, TI, TO, i1, i2], c < ((sd.heap.push { cls := .type "list", data := .seq #[] }).update S (Obj.mapSeq fun _ => #[])).objs.size := fun c hcm => by
        have l4 : ∀ {c : Addr} {o : Obj}, c ≠ S → sd.heap.get? c = some o → c < ((sd.heap.push { cls := .type "list", data := .seq #[] }).update S (Obj.mapSeq fun _ => #[])).objs.size := fun {c o} q1 q2 => Heap.lt_size (lift q1 q2)
        simp only [List.mem_cons, List.not_mem_nil, or_false] at hcm
        rcases hcm with rfl | rfl | rfl | rfl | rfl
        · exact l4 (neS _ (by simp)) hz
        · exact l4 (neS _ (by simp)) hTI
        · exact l4 (neS _ (by simp)) hTO
        · obtain ⟨o, q, _⟩ := h1
          exact l4 (neS _ (by simp)) q
        · obtain ⟨o, q, _⟩ := h2
          exact l4 (neS _ (by simp)) q
      generalize hs4 : ({ sd with heap := (sd.heap.push { cls := .type "list", data := .seq #[] }).update S (Obj.mapSeq fun _ => #[]), toks := sd.toks } : Shared) = s4 at I4 ⊢
      have es4 : s4.heap = (sd.heap.push { cls := .type "list", data := .seq #[] }).update S (Obj.mapSeq fun _ => #[]) := by rw [← hs4]
      rw [← es4] at hz4 TI4 TO4 h14 h24 hlt4
      have hTz : s4.TypeIs (.ref z) "zip" := ⟨_, hz4, rfl⟩
      unfold Builtin.List.listExtendWith
      refine wpAny_bind (wpAny_typeOf hTz ?_)
      have q1 : Builtin.List.listSameRef (.ref S) (.ref z) = false := by simp [Builtin.List.listSameRef, Ne.symm (neS z (by simp))]
      have q2 : (Value.type "zip" == Value.type "list") = false := rfl
      have q3 : (Value.type "zip" == Value.type "tuple") = false := rfl
      simp only [q1, q2, q3, Bool.or_false, Bool.false_eq_true, if_false]
      refine wpAny_bind (wpAny_pyIter_zip hz4 ?_)
      refine wpAny_bind (wpAny_holding ?_)
      unfold Builtin.List.listLengthHint
      refine wpAny_bind (wpAny_specialOf hTz nolen_zip ?_)
      first
        | refine PySem.W.KFB.if_not rfl ?_
        | skip
      refine PySem.W.KFB.if_not rfl ?_
      refine wpAny_bind (wpAny_specialOf hTz nohint_zip ?_)
      refine wpAny_pure ?_
      have few0 : (List.map V.ref ([] : List Addr)) = [] := rfl
      have fin : ∀ s5 : Shared, Inv X pins σ (upd H1 S (.lst [])) s5 → (∀ c ∈ [z, TI, TO, i1, i2], c < s5.heap.objs.size) → IsPair s5.heap TI (.ref i1) (.ref i2) → s5.heap.IsListIter i1 a 0 → s5.heap.IsListIter i2 b 0 → IsZip s5.heap z TI TO .none → (∃ x y, IsPair s5.heap TO x y) → codeAny (model X.prog X.w) X.A.in1 (.builtin "list.extend.loop" ⟨[.ref S, .ref z, .none], []⟩) (wants (fun r s₂ => r = .none ∧ EP X pins σ Q (.ref S) s₂) X.xe) s5 := fun s5 I5 w1 w2 w3 w4 w5 w6 =>
        zip_loop (A1 := X.A.in1) (H0 := H1) hc (I5.ok.hd hc) D hqx hqy fr few (fun s6 H' as e6 hS6 hn6 hSa6 nd6 la6 hp6 I6 => ⟨rfl, .ref S, H', I6, rfl, q H' S as e6 fr hS6 hn6 hSa6 nd6 la6 hp6⟩) _ 0 s5 (upd H1 S (.lst [])) [] rfl (Nat.zero_le _) I5 (Evl.Ex.new fr) upd_same (fun t ht => absurd ht List.not_mem_nil) List.not_mem_nil List.Pairwise.nil rfl (fun j t hj => by cases hj) (fun c hcm => by
          obtain ⟨f1, f2⟩ := hf c hcm
          exact ⟨by rw [upd_ne (neS c hcm)]; exact f1, f2⟩) w1 w2 w3 w4 (.inl ⟨rfl, w5, w6⟩)
      refine wpAny_ite_split (fun _ => ?_) (fun _ => wpAny_pure ⟨plainId_quiet PySem.F.plain_extend_loop _, fin _ I4 hlt4 TI4 h14 h24 hz4 ⟨_, _, TO4⟩⟩)
      obtain ⟨z7, its7, k7, r7, hl7, e7⟩ := I4.lstM (l := S) upd_same
      cases r7
      refine wpAny_bind (wpAny_rule ?_)
      refine wpAny_bind ?_
      show wpAny _ _ (updateSeq S (·.push .none) >>= fun _ => updateSeq S (·.pop)) _ _ _
      refine wpAny_bind (wpAny_updateSeq e7 rfl ?_)
      have I8 := I4.lset (l := S) (f := (·.push Value.none)) (its' := [Value.none]) (ys := [.non]) (t' := s4.toks) upd_same e7 (by simp) (.cons rfl .nil) (by rw [List.length_singleton, sizeLine_eq]; decide)
      obtain ⟨z9, its9, k9, r9, hl9, e9⟩ := I8.lstM (l := S) upd_same
      obtain ⟨u9, rfl, ru9⟩ := r9.one
      refine wpAny_updateSeq e9 rfl ?_ (by show 1 ≤ sizeLine; rw [sizeLine_eq]; decide) (by show 0 ≤ sizeLine + 1; exact Nat.zero_le _)
      have I9 := I8.lset (l := S) (f := (·.pop)) (its := [u9]) (its' := []) (ys := []) (t' := s4.toks) upd_same e9 (by rfl) .nil (Nat.zero_le _)
      rw [upd_upd, upd_upd] at I9
      have lift9 : ∀ {c : Addr} {o : Obj}, c ≠ S → s4.heap.get? c = some o → ((s4.heap.update S (Obj.mapSeq (·.push Value.none))).update S (Obj.mapSeq (·.pop))).get? c = some o := fun {c o} q1 q2 => (Heap.get?_update_other _ _ (Ne.symm q1)).trans ((Heap.get?_update_other _ _ (Ne.symm q1)).trans q2)
      refine wpAny_pure ⟨plainId_quiet PySem.F.plain_extend_loop _, fin _ I9 (fun c hcm => ?_) (lift9 (neS TI (by simp)) TI4) (h14.at fun o q => lift9 (neS i1 (by simp)) q) (h24.at fun o q => lift9 (neS i2 (by simp)) q) (lift9 (neS z (by simp)) hz4) ⟨_, _, lift9 (neS TO (by simp)) TO4⟩⟩
      have l9 : ∀ {c : Addr} {o : Obj}, c ≠ S → s4.heap.get? c = some o → c < ((s4.heap.update S (Obj.mapSeq (·.push Value.none))).update S (Obj.mapSeq (·.pop))).objs.size := fun {c o} q1 q2 => Heap.lt_size (lift9 q1 q2)
      simp only [List.mem_cons, List.not_mem_nil, or_false] at hcm
      rcases hcm with rfl | rfl | rfl | rfl | rfl
      · exact l9 (neS _ (by simp)) hz4
      · exact l9 (neS _ (by simp)) TI4
      · exact l9 (neS _ (by simp)) TO4
      · obtain ⟨o, q, _⟩ := h14
        exact l9 (neS _ (by simp)) q
      · obtain ⟨o, q, _⟩ := h24
        exact l9 (neS _ (by simp)) q
end
end TW
set_option Elab.async false
set_option linter.all false
set_option maxRecDepth 100000
set_option maxHeartbeats 1000000
namespace TW
open PySem PySem.Spec PyProof.Rows L2
/-- o[i] of a list, for o[i] -= x -/
def rGetL (K : PySem.W.Frag) : V → V → Hp → VK → Prop := fun o i H Q => ∃ (p : Addr) (xs : List V) (k : Nat) (v : V), o = .ref p ∧ i = .int (k : Int) ∧ SqL K H p xs ∧ xs[k]? = some v ∧ Q v H
theorem get_list {X : Cx} : PGet X (rGetL X.K) := by
  intro pins s σ H o i ov iv Q I rx ry h
  obtain ⟨p, xs, k, z, rfl, rfl, hq, he, q⟩ := h
  cases rx
  obtain ⟨t, rfl⟩ := ry
  obtain ⟨its, r, pl, hz⟩ := I.list hq
  obtain ⟨w, ew, rw'⟩ := r.get he
  have hl := r.length
  have hk := (List.getElem?_eq_some_iff.mp he).1
  have hn := line63
  exact wpAny_getItem_list pl.isList (by omega) (by omega) (by simpa using ew) ⟨z, H, I, rw', q⟩
theorem Has.newL {G H H2 : Hp} {l cs : List (Addr × HO)} (S : Has G H l) (e : Ex H H2) (h : ∀ q ∈ cs, H q.1 = none ∧ H2 q.1 = some q.2) (nd : (cs.map (·.1)).Nodup) : Has G H2 (cs ++ l) := by
  refine ⟨S.ex.trans e, fun q hq => ?_, ?_⟩
  · rcases List.mem_append.mp hq with c | c
    · exact ⟨Evl.fresh_back S.ex (h q c).1, (h q c).2⟩
    · exact (S.go e).own q c
  · rw [List.map_append]
    refine List.nodup_append.mpr ⟨nd, S.nd, fun a ha b hb q => ?_⟩
    obtain ⟨x, hx, ex⟩ := List.mem_map.mp ha
    obtain ⟨y, hy, ey⟩ := List.mem_map.mp hb
    have h1 := (h x hx).1
    have h2 := (S.own y hy).2
    rw [ex, q, ← ey, h2] at h1
    cases h1
theorem steps_snoc (x : Int) (M : Nat → Nat → Int) (L : List (Nat × Nat)) (e : Nat × Nat) : stepsM x M (L ++ [e]) = stepM (stepsM x M L) e.1 e.2 x := by
  unfold stepsM
  rw [List.foldl_append]
  rfl
theorem rowW_dirs {n : Nat} {M : Nat → Nat → Int} {S T : List Nat} {row : List Nat} (R : RowW n M S T row) (apart : ∀ s ∈ S, s ∉ T) : ∃ e es, dirs row = e :: es := by
  obtain ⟨s, hs, h1⟩ := R.hd
  obtain ⟨t, ht, h2⟩ := R.lst
  match row, h1, h2 with
  | [], h1, _ => cases h1
  | [u], h1, h2 =>
    have e1 : u = s := Option.some.inj h1
    have e2 : u = t := Option.some.inj h2
    exact absurd (e2 ▸ ht) (by rw [e1]; exact apart s hs)
  | u :: v :: r, _, _ => exact ⟨(u, v), dirs (v :: r), rfl⟩
theorem cutV_tail (xs : List V) : cutV xs (some 1) none = xs.tail := by
  unfold cutV
  rw [HT.sIx_none, show (some (1 : Int) : Option Int) = some ((1 : Nat) : Int) from rfl, HT.sIx_nat]
  cases xs with
  | nil => rfl
  | cons x xs =>
    rw [List.length_cons, Nat.min_eq_left (by omega), List.drop_one, List.tail_cons, Nat.add_sub_cancel, List.take_length]
theorem dirs_len (row : List Nat) : (dirs row).length = min row.length row.tail.length := by
  rw [← dirs_zip, List.length_zip]
theorem dirs_at {row : List Nat} {j : Nat} {e : Nat × Nat} (h : (dirs row)[j]? = some e) : row[j]? = some e.1 ∧ row.tail[j]? = some e.2 := by
  rw [← dirs_zip, List.getElem?_zip_eq_some] at h
  exact h
section
variable {P : Program} {w : World} {K : PySem.W.Frag} {mg : Str → Option Value} {base : Heap} {C N : Addr}
/-! _rooms_left -/
abbrev NRL : List Str := ["web", "must", "never", "rooms", "row", "steps", "amount", "place", "other_place"]
theorem sc__rooms_left : FnScope NRL ["web", "must", "never"] (defScope s__rooms_left) := ⟨rfl, rfl, rfl, by decide +kernel, rfl, by decide +kernel, by decide +kernel⟩
def spLeft (C : Addr) : Sp := fun vs H Q _ => ∃ (G : Hp) (l : List (Addr × HO)) (a sa ta : Addr) (n : Nat) (ts : List Arc) (S T : List Nat), vs = [.ref a, .ref sa, .ref ta] ∧ Has G H l ∧ WebAt C G a n ts ∧ Net n ts ∧ G sa = some (.tup ((rowI S).map V.int)) ∧ G ta = some (.tup ((rowI T).map V.int)) ∧ S.Nodup ∧ (∀ s ∈ S, s < n) ∧ (∀ s ∈ S, s ∉ T) ∧
  ∀ (H' : Hp) (R : Addr) (as : List Addr) (M : Nat → Nat → Int) (W : Int), Has G H' ((R, .lst (refsA as)) :: (rowsC as M n ++ l)) → as.length = n → Flow ts n S T M W → (∀ t ∈ T, ¬ ∃ s ∈ S, Rch n M s t) → Q (.ref R) H'
theorem ok_left (D : Dfn K mg "_rooms_left" s__rooms_left ["web", "must", "never"]) (z : Z mg) (zmin : mg "min" = none) (O_rooms : Ok P w K mg base 3 "rooms_of" ["web"] (spRooms C)) (O_row : Ok P w K mg base 2 "_shortest_row" ["rooms", "must", "never"] (spRow K)) : Ok P w K mg base 4 "_rooms_left" ["web", "must", "never"] (spLeft C) := D.ok fun f fd F => by
  refine F.ok sc__rooms_left (fun vs H Q E h => ?_) (fun cdv A outer s H vs Q E hr h => ?_)
  · obtain ⟨G, l, a, sa, ta, n, ts, S, T, rfl, _⟩ := h
    rfl
  · obtain ⟨G, l, a, sa, ta, n, ts, S, T, rfl, SS, web, net, hsa, hta, nd, hlt, apart, q⟩ := h
    refine ⟨_, (pss_cons (ps_set (i := 3) sc__rooms_left.nd rfl (Or.inr rfl) (pe_o O_rooms hr (pa_cons (pv 0) pa_nil)))
      (pss_cons (ps_set (i := 4) sc__rooms_left.nd rfl (Or.inl rfl) (pe_o O_row (hr.mono (by decide)) (pa_cons (pv 3) (pa_cons (pv 1) (pa_cons (pv 2) pa_nil)))))
      (pss_cons (ps_while PassesOwn.never (pt_cmpR op_gt (pe_callB call_len_seq (by rfl) z.len PySem.boot_len (pa_cons (pv 4) pa_nil)) pe_int (nomark _))
        (pss_cons (ps_set (i := 5) sc__rooms_left.nd rfl (Or.inl rfl) (pe_listZip rfl (by rfl) z.list (by rfl) z.zip (pa_cons (pv 4) (pa_cons (pe_slice sl_list (pv 4) (po_some pe_int) po_none) pa_nil))))
        (pss_cons (ps_set (i := 6) sc__rooms_left.nd rfl (Or.inl rfl) (pe_callB (cr_min rfl) (by rfl) zmin (by decide +kernel) (pa_cons (pe_lc (own := [("place", 7), ("other_place", 8)]) (g := gTup K 2 (gCons (gName 7) (gCons (gName 8) gNil))) rfl sc__rooms_left.nd (pi_list (pv 5)) (blkOk_by (N := NRL) (own := [("place", 7), ("other_place", 8)]) (sc := defScope s__rooms_left) (by decide +kernel)) (fun _ _ _ _ _ => pg_tup rfl (pgs_cons (pg_name (i := 7) sc__rooms_left.nd rfl (Or.inl rfl)) (pgs_cons (pg_name (i := 8) sc__rooms_left.nd rfl (Or.inl rfl)) pgs_nil))) (fun _ _ _ _ _ => pts_nil)
          (fun _ _ _ _ _ => (pe_ix (ix_any (K := K)) (pe_ix (ix_any (K := K)) (pv 3) (pv 7) (fun _ _ => rfl)) (pv 8) (fun _ _ => rfl)))) pa_nil)))
        (pss_cons (ps_for PassesOwn.never rfl (pi_list (pv 5)) (pg_tup rfl (pgs_cons (pg_name (i := 7) sc__rooms_left.nd rfl (Or.inl rfl)) (pgs_cons (pg_name (i := 8) sc__rooms_left.nd rfl (Or.inl rfl)) pgs_nil)))
          (pss_cons (ps_augS (pe_ix ix_list (pv 3) (pv 7) (fun _ _ => rfl)) (pv 8) get_list (pv 6) ip_sub set_list)
          (pss_one (ps_augS (pe_ix ix_list (pv 3) (pv 8) (fun _ _ => rfl)) (pv 7) get_list (pv 6) ip_add set_list))))
        (pss_one (ps_set (i := 4) sc__rooms_left.nd rfl (Or.inl rfl) (pe_o O_row (hr.mono (by decide)) (pa_cons (pv 3) (pa_cons (pv 1) (pa_cons (pv 2) pa_nil))))))))))
      (pss_one (ps_ret (pv 3)))))), ?_⟩
    have n100 := net.few
    have okT : ∀ t ∈ ts, arcOk n t := fun t ht => by
      obtain ⟨h1, h2, _⟩ := net.ok t ht
      exact ⟨by omega, h2, by omega⟩
    refine ⟨_, rfl, G, l, a, n, ts, rfl, SS, web, net, fun H1 R as S1 la => ?_⟩
    have sqS : ∀ {H' : Hp}, Ex G H' → SqT K H' sa ((rowI S).map V.int) := fun e => Evl.st_of (e _ _ hsa)
    have sqT : ∀ {H' : Hp}, Ex G H' → SqT K H' ta ((rowI T).map V.int) := fun e => Evl.st_of (e _ _ hta)
    refine ⟨_, rfl, _, rfl, _, rfl, sa, ta, R, n, conM ts, S, T, rfl, sqS S1.ex, sqT S1.ex, nd, hlt, by omega, S1.rooms la, fun H2 rw0 row e2 nrw hrw hrow => ?_⟩
    have S2 := S1.newE e2 nrw hrw
    have F0 := flow_first okT S T
    have g0 : goesB S T (fun k => decide (k ∈ S)) := ⟨fun s hs => decide_eq_true hs, fun t ht => decide_eq_false fun h => apart t h ht⟩
    obtain ⟨cap, hcap⟩ : ∃ cap : Nat, cap = cutA ts fun k => decide (k ∈ S) := ⟨_, rfl⟩
    obtain ⟨Wh, hW⟩ : ∃ Wh : Nat → L2.St → Hp → Prop, Wh = fun m σ H' => ∃ (rw : Addr) (row : List Nat) (M : Nat → Nat → Int) (W : Int) (v5 v6 v7 v8 : Option V), σ = [some (.ref a), some (.ref sa), some (.ref ta), some (.ref R), some (.ref rw), v5, v6, v7, v8] ∧ Has G H' ((rw, .lst ((rowI row).map V.int)) :: (R, .lst (refsA as)) :: (rowsC as M n ++ l)) ∧ Flow ts n S T M W ∧ ((row = [] ∧ ∀ t ∈ T, ¬ ∃ s ∈ S, Rch n M s t) ∨ RowW n M S T row) ∧ m = ((cap : Int) - W).toNat := ⟨_, rfl⟩
    refine ⟨Wh, ⟨((cap : Int) - 0).toNat, ?_⟩, ?_⟩
    · rw [hW]
      exact ⟨rw0, row, conM ts, 0, none, none, none, none, rfl, S2, F0, hrow, rfl⟩
    clear hrow hrw nrw S2 F0
    intro m σ H3 hw
    rw [hW] at hw
    obtain ⟨rw, row, M, W, v5, v6, v7, v8, rfl, S3, F3, hrow, rfl⟩ := hw
    refine ⟨_, rfl, rw, _, rfl, .inl (Evl.sq_of (S3.get 0 rfl)), _, _, rfl, rfl, _, rfl, ?_⟩
    rw [List.length_map, rowI_len]
    refine ite2 (fun hc => ?_) (fun hc => ?_)
    · have ne : row ≠ [] := fun e => by
        rw [e] at hc
        exact absurd hc (by decide)
      have RW : RowW n M S T row := hrow.resolve_left fun h => ne h.1
      obtain ⟨e0, es0, hd0⟩ := rowW_dirs RW apart
      have lrow : row.length ≤ 100 := by
        have := nodup_lenG RW.nd (ys := List.range n) fun k hk => List.mem_range.mpr (RW.lt k hk)
        rw [List.length_range] at this
        omega
      refine ⟨fun σ' H' => ∃ m', m' < ((cap : Int) - W).toNat ∧ Wh m' σ' H', fun σ' H' h => h, ?_⟩
      -- steps
      refine ⟨_, rfl, _, rfl, 1, rfl, rw, _, rfl, Evl.sq_of (S3.get 0 rfl), fun p1 np1 => ?_⟩
      rw [cutV_tail]
      have S4 := S3.new (o := .lst ((rowI row).map V.int).tail) np1
      generalize upd H3 p1 (.lst ((rowI row).map V.int).tail) = H4 at S4
      have et : ((rowI row).map V.int).tail = (rowI row.tail).map V.int := by
        unfold rowI
        rw [List.map_tail, List.map_tail]
      rw [et] at S4
      refine ⟨rw, p1, _, _, rfl, Evl.sq_of (S4.get 1 rfl), Evl.sq_of (S4.get 0 rfl), by rw [List.length_map, rowI_len]; omega, fun H5 Lz tu e5 nL hL ntu nLt ndt ltu pra => ?_⟩
      have ld : tu.length = (dirs row).length := by
        rw [ltu, dirs_len, List.length_map, List.length_map, rowI_len, rowI_len]
      have tup : ∀ (j : Nat) (t : Addr) (e : Nat × Nat), tu[j]? = some t → (dirs row)[j]? = some e → H5 t = some (.tup [.int e.1, .int e.2]) := fun j t e h1 h2 => by
        obtain ⟨x, y, q1, q2, q3⟩ := pra j t h1
        obtain ⟨d1, d2⟩ := dirs_at h2
        rw [List.getElem?_map, rowI_at d1] at q1
        rw [List.getElem?_map, rowI_at d2] at q2
        cases q1
        cases q2
        exact q3
      have S5 := Has.newL (S4.tail.tail) e5 (cs := (Lz, .lst (tu.map V.ref)) :: (tu.zip (dirs row)).map fun q => (q.1, HO.tup [.int q.2.1, .int q.2.2])) (fun q hq => by
        rcases List.mem_cons.mp hq with c | c
        · rw [c]
          exact ⟨nL, hL⟩
        · obtain ⟨x, hx, ex⟩ := List.mem_map.mp c
          obtain ⟨j, hj⟩ := List.mem_iff_getElem?.mp hx
          obtain ⟨j1, j2⟩ := List.getElem?_zip_eq_some.mp hj
          rw [← ex]
          exact ⟨ntu _ (List.mem_of_getElem? j1), tup j _ _ j1 j2⟩) (by
        rw [List.map_cons, List.map_map, show ((fun q : Addr × HO => q.1) ∘ fun q : Addr × (Nat × Nat) => (q.1, HO.tup [.int q.2.1, .int q.2.2])) = Prod.fst from rfl, List.map_fst_zip (by omega)]
        exact List.nodup_cons.mpr ⟨nLt, ndt⟩)
      obtain ⟨G6, e6, cells, S6⟩ := Has.sinkL S5
      have hL6 : G6 Lz = some (.lst (tu.map V.ref)) := cells _ List.mem_cons_self
      have aD : Ats G6 (tu.map V.ref) ((dirs row).map prD) := ⟨by rw [List.length_map, List.length_map, ld], fun i x d h1 h2 => by
        rw [List.getElem?_map] at h1 h2
        cases c1 : tu[i]? with
        | none => rw [c1] at h1; cases h1
        | some t =>
          cases c2 : (dirs row)[i]? with
          | none => rw [c2] at h2; cases h2
          | some e =>
            rw [c1] at h1
            rw [c2] at h2
            cases h1
            cases h2
            refine at_pr (cells (t, _) (List.mem_cons_of_mem _ (List.mem_map.mpr ⟨(t, e), List.mem_iff_getElem?.mpr ⟨i, List.getElem?_zip_eq_some.mpr ⟨c1, c2⟩⟩, rfl⟩)))⟩
      have okD : ∀ e ∈ dirs row, e.1 < n ∧ e.2 < n ∧ e.1 ≠ e.2 := fun e he => ⟨RW.lt _ (dirs_mem he).1, RW.lt _ (dirs_mem he).2, dirs_ne RW.nd e he⟩
      have lD : (dirs row).length ≤ 100 := by rw [dirs_len]; omega
      have refR : ∀ {k : Nat}, k < n → (refsA as)[k]? = some (.ref (as.getD k 0)) ∧ as[k]? = some (as.getD k 0) := fun {k} hk => by
        have h1 : as[k]? = some (as.getD k 0) := by
          rw [List.getD_eq_getElem?_getD, List.getElem?_eq_getElem (by omega)]
          rfl
        exact ⟨by unfold refsA; rw [List.getElem?_map, h1]; rfl, h1⟩
      generalize hD : dirs row = D at *
      -- amount
      refine ⟨_, rfl, Lz, rfl, ⟨_, Evl.sq_of (S6.ex _ _ hL6)⟩, fun D1 hD1 => ?_⟩
      refine lc_list (K := K) (a := Lz) (xs := tu.map V.ref) (fun i H' => Has G6 H' ((D1, .lst (((D.take i).map fun e => M e.1 e.2).map V.int)) :: (R, .lst (refsA as)) :: (rowsC as M n ++ l))) (S6.new hD1) (fun i H' _ S' => Evl.sq_of (S'.ex _ _ hL6)) ?_ ?_
      · rintro i x H7 hi S7
        obtain ⟨e, he, ax⟩ := ats_get aD hi
        obtain ⟨b, rfl, hb⟩ := (ax.ex S7.ex).pr
        obtain ⟨k1, k2, k3⟩ := okD e (List.mem_of_getElem? he)
        obtain ⟨r1, r2⟩ := refR k1
        have g1 := Has.row (l1 := [_, _]) S7 r2
        refine ⟨b, _, rfl, Evl.st_of hb, rfl, _, _, rfl, _, _, rfl, rfl, rfl, ?_⟩
        refine ⟨_, rfl, _, rfl, .inl ⟨R, _, e.1, _, rfl, rfl, Evl.sq_of (S7.get 1 rfl), atI_nat r1, _, rfl, .inl ⟨_, _, e.2, _, rfl, rfl, Evl.sq_of g1, atI_nat (rowM_at k2), _, S7.get 0 rfl, szl (by rw [List.length_map, List.length_map, List.length_take]; omega), ?_⟩⟩⟩
        show Has G6 _ _
        rw [take_snoc he, List.map_append, List.map_append]
        exact S7.set 0 rfl
      rintro H7 S7
      rw [List.length_map, ld, List.take_length] at S7
      refine ⟨D1, D.map fun e => M e.1 e.2, rfl, Evl.sq_of (S7.get 0 rfl), by rw [List.length_map, hd0]; exact Nat.succ_pos _, fun x hx low => ?_⟩
      have S8 := S7.tail
      have x0 : 0 < x := by
        obtain ⟨e, he, ex⟩ := List.mem_map.mp hx
        rw [← ex]
        exact RW.room e (by rw [hD]; exact he)
      have lowD : ∀ e ∈ D, x ≤ M e.1 e.2 := fun e he => low _ (List.mem_map.mpr ⟨e, he, rfl⟩)
      -- the steps done
      refine ⟨_, rfl, Lz, rfl, ⟨_, Evl.sq_of (S8.ex _ _ hL6)⟩, for_list (K := K) (a := Lz) (xs := tu.map V.ref) (fun i σ H' => ∃ v7 v8 : Option V, σ = [some (.ref a), some (.ref sa), some (.ref ta), some (.ref R), some (.ref rw), some (.ref Lz), some (.int x), v7, v8] ∧ Has G6 H' ((R, .lst (refsA as)) :: (rowsC as (stepsM x M (D.take i)) n ++ l)))
        ⟨_, _, rfl, S8⟩ (fun i σ H' _ h => by
          obtain ⟨_, _, _, S'⟩ := h
          exact Evl.sq_of (S'.ex _ _ hL6)) ?_ ?_⟩
      · rintro j y σ H8 hj ⟨v7, v8, rfl, S9⟩
        obtain ⟨e, he, ax⟩ := ats_get aD hj
        obtain ⟨b, rfl, hb⟩ := (ax.ex S9.ex).pr
        obtain ⟨k1, k2, k3⟩ := okD e (List.mem_of_getElem? he)
        obtain ⟨r1, r2⟩ := refR k1
        obtain ⟨r3, r4⟩ := refR k2
        rw [take_snoc he, steps_snoc]
        generalize stepsM x M (D.take j) = M1 at S9
        have g1 := Has.row (l1 := [_]) S9 r2
        refine ⟨b, _, rfl, Evl.st_of hb, rfl, _, _, rfl, _, _, rfl, rfl, ?_⟩
        refine ⟨_, rfl, _, rfl, R, _, e.1, _, rfl, rfl, Evl.sq_of (S9.get 0 rfl), atI_nat r1, _, rfl, _, _, e.2, _, rfl, rfl, Evl.sq_of g1, rowM_at k2, _, rfl, _, _, rfl, rfl, _, _, e.2, e.2, rfl, rfl, g1, Evl.ixN_nat (by rw [List.length_map, rowM_len]; exact k2), ?_⟩
        have S10 : Has G6 _ ((R, .lst (refsA as)) :: (rowsC as (putM M1 e.1 e.2 (M1 e.1 e.2 - x)) n ++ l)) := Has.setRow (l1 := [_]) S9 r2 (rowM_other _ _ _ _ _)
        rw [rowM_put] at S10
        generalize upd H8 (as.getD e.1 0) (.lst (((rowM M1 n e.1).map V.int).set e.2 (.int (M1 e.1 e.2 - x)))) = H9 at S10
        have g2 := Has.row (l1 := [_]) S10 r4
        refine ⟨_, rfl, _, rfl, R, _, e.2, _, rfl, rfl, Evl.sq_of (S10.get 0 rfl), atI_nat r3, _, rfl, _, _, e.1, _, rfl, rfl, Evl.sq_of g2, rowM_at k1, _, rfl, _, _, rfl, rfl, _, _, e.1, e.1, rfl, rfl, g2, Evl.ixN_nat (by rw [List.length_map, rowM_len]; exact k1), ?_⟩
        have S11 : Has G6 _ ((R, .lst (refsA as)) :: (rowsC as (stepM M1 e.1 e.2 x) n ++ l)) := Has.setRow (l1 := [_]) S10 r4 (rowM_other _ _ _ _ _)
        rw [show (rowM (stepM M1 e.1 e.2 x) n e.2).map V.int = ((rowM (putM M1 e.1 e.2 (M1 e.1 e.2 - x)) n e.2).map V.int).set e.1 (.int (putM M1 e.1 e.2 (M1 e.1 e.2 - x) e.2 e.1 + x)) from rowM_put _ _ _ _ _] at S11
        exact ⟨_, _, rfl, S11⟩
      · rintro σ H8 ⟨v7, v8, rfl, S9⟩
        rw [List.length_map, ld, List.take_length] at S9
        have F4 : Flow ts n S T (stepsM x M D) (W + x) := by
          have := F3.aug RW (x := x) (by omega) (fun e he => lowD e (by rw [← hD]; exact he))
          rw [hD] at this
          exact this
        have S10 : Has G H8 ((R, .lst (refsA as)) :: (rowsC as (stepsM x M D) n ++ l)) := S9.down e6
        refine ⟨_, rfl, _, rfl, _, rfl, sa, ta, R, n, stepsM x M D, S, T, rfl, sqS S10.ex, sqT S10.ex, nd, hlt, by omega, S10.rooms la, fun H9 u row2 e9 nu hu hrow2 => ?_⟩
        have S11 := S10.newE e9 nu hu
        have le4 := F4.le g0
        rw [← hcap] at le4
        refine ⟨((cap : Int) - (W + x)).toNat, by omega, ?_⟩
        rw [hW]
        exact ⟨u, row2, stepsM x M D, W + x, _, _, _, _, rfl, S11, F4, hrow2, rfl⟩
    · have e0 : row = [] := by
        have : ¬ ((row.length : Int) > 0) := fun h => hc (decide_eq_true h)
        exact List.length_eq_zero_iff.mp (by omega)
      refine ⟨_, rfl, q H3 R as M W S3.tail la F3 ?_⟩
      rcases hrow with h | h
      · exact h.2
      · obtain ⟨s, _, h1⟩ := h.hd
        rw [e0] at h1
        cases h1
end
end TW
set_option Elab.async false
set_option linter.all false
set_option maxRecDepth 100000
set_option maxHeartbeats 1000000
/-! a range object kept in a name: range(n), and a walk over it -/
namespace TW
open PySem PySem.Spec PyProof.Rows L2
section
variable {X : Cx}
theorem cr_range1 : CallR X (.type "range") (fun vs H Q => ∃ j, vs = [V.int j] ∧ ∀ p, H p = none → Q (.ref p) (upd H p (.rng 0 j))) := by
  intro pins s σ H vs us Q I r h
  obtain ⟨j, rfl, q⟩ := h
  cases r with
  | cons r rr =>
    cases rr
    obtain ⟨t, rfl⟩ := r
    refine call_range_1 ⟨.ref s.heap.objs.size, upd H s.heap.objs.size (.rng 0 j), ?_, rfl, q _ (I.hok.fresh (Nat.le_refl _))⟩
    refine I.laid (fun b o e => Heap.get?_push_of_some _ e) (Nat.le_refl _) ?_
    exact ⟨_, _, _, Heap.get?_push_size _ rfl⟩
/-- for x in places, places a range object -/
def iRngV (te : TE) : L2.TI := fun σ H R => te σ H fun x H1 => ∃ (a : Addr) (lo hi : Int), x = .ref a ∧ H1 a = some (.rng lo hi) ∧ (-(2 ^ 62) ≤ lo ∧ lo < 2 ^ 62 ∧ -(2 ^ 62) ≤ hi ∧ hi < 2 ^ 62) ∧ R (Itr lo (hi - lo).toNat) H1
theorem pi_rngV {tg e : Expr} {te : TE} (he : PE X e te) : PI X tg e (iRngV te) := by
  refine ⟨fun pins s σ H R I h => ?_⟩
  refine thn (he.run pins s σ H _ I h) fun v s1 ⟨x, H1, I1, r1, q1⟩ => ?_
  obtain ⟨a, lo, hi, e, ha, ⟨b1, b2, b3, b4⟩, q⟩ := q1
  subst e
  cases r1
  obtain ⟨t, u, w, hr⟩ := (show ∃ t u v, s1.heap.get? a = some { cls := .type "range", data := .fields #[.int lo t, .int hi u, .int 1 v] } from I1.hok a _ ha)
  refine wpAny_pyIter_range (show IsRange s1.heap a lo hi 1 t u w from hr) (small_one b1 b2 b3 b4) ?_
  refine ⟨s1.heap.objs.size, [s1.heap.objs.size], _, _, H1, rfl, I1.kept (t' := s1.toks) fun b o e => Heap.get?_push_of_some _ e, turn_range _ lo (hi - lo).toNat, ?_, fun b hb => ?_, q⟩
  · have e1 : lo + ((0 : Nat) : Int) * 1 = lo := by simp
    have e2 : (((hi - lo).toNat : Nat) : Int) - ((0 : Nat) : Int) = Builtin.Range.rangeSize lo hi 1 := by rw [rangeSize_one]; split <;> omega
    show IsRangeIter _ _ (lo + ((0 : Nat) : Int) * 1) ((((hi - lo).toNat : Nat) : Int) - ((0 : Nat) : Int)) 1
    rw [e1, e2]
    exact Heap.get?_push_size _ rfl
  · have e : b = s1.heap.objs.size := by simpa using hb
    subst e
    exact I1.fpOk (Nat.le_refl _) (I1.hok.fresh (Nat.le_refl _))
end
end TW
set_option Elab.async false
set_option linter.all false
set_option maxRecDepth 100000
set_option maxHeartbeats 1000000
namespace TW
open PySem PySem.Spec PyProof.Rows L2
/-- the places of a side -/
def plcN (n : Nat) (f : Nat → Bool) : List Nat := (List.range n).filter f
def backM (M : Nat → Nat → Int) : Nat → Nat → Int := fun a b => M b a
theorem side_up (n : Nat) (f : Nat → Bool) : (rowI (plcN n f)).Pairwise (· < ·) := by
  unfold rowI plcN
  rw [List.pairwise_map]
  exact (List.pairwise_lt_range.filter _).imp fun h => by omega
theorem side_len (n : Nat) (f : Nat → Bool) : (plcN n f).length ≤ n := Nat.le_trans (List.length_filter_le _ _) (by rw [List.length_range]; exact Nat.le_refl _)
theorem mem_side {n : Nat} {f : Nat → Bool} {k : Nat} : k ∈ plcN n f ↔ k < n ∧ f k = true := by
  unfold plcN
  rw [List.mem_filter, List.mem_range]
open Classical in
theorem rch_iff {n : Nat} {M : Nat → Nat → Int} {S : List Nat} {k : Nat} : rchB n M S k = true ↔ ∃ s ∈ S, Rch n M s k := by
  unfold rchB
  exact decide_eq_true_iff
theorem sorted_side {n : Nat} {M : Nat → Nat → Int} {S : List Nat} (hS : ∀ s ∈ S, s < n) {ks : List (Nat × Option Nat)} (F : FullW n M S ks) {ys : List Int} (pm : ys.Perm (rowI (ks.map (·.1)))) (up : ys.Pairwise (· ≤ ·)) : ys = rowI (plcN n (rchB n M S)) := by
  have nd : ys.Nodup := pm.nodup_iff.mpr (rowI_nd F.way.nd)
  have up2 : ys.Pairwise (· < ·) := up.imp₂ (fun {a b} h1 h2 => by
    have h2 : a ≠ b := h2
    omega) nd
  refine strict_ext (fun a b h1 h2 => by omega) up2 (side_up n _) fun z => ?_
  rw [pm.mem_iff]
  unfold rowI
  rw [List.mem_map, List.mem_map]
  constructor
  · rintro ⟨k, hk, e⟩
    exact ⟨k, mem_side.mpr ⟨F.way.lt hS k hk, rch_iff.mpr ((F.mem hS k).mp hk)⟩, e⟩
  · rintro ⟨k, hk, e⟩
    exact ⟨k, (F.mem hS k).mpr (rch_iff.mp (mem_side.mp hk).2), e⟩
section
variable {P : Program} {w : World} {K : PySem.W.Frag} {mg : Str → Option Value} {base : Heap} {C N : Addr}
/-! _outermost_sides -/
abbrev NOS : List Str := ["rooms", "must", "never", "places", "rooms_back", "barred", "least", "other_place", "place"]
theorem sc__outermost_sides : FnScope NOS ["rooms", "must", "never"] (defScope s__outermost_sides) := ⟨rfl, rfl, rfl, by decide +kernel, rfl, by decide +kernel, by decide +kernel⟩
def scBk : Scope := { kind := .function, names := [(".0", .local), ("other_place", .cell), ("places", .cell), ("rooms", .cell)], isGenerator := false, isCoroutine := false }
def spOuter : Sp := fun vs H Q _ => ∃ (G : Hp) (l : List (Addr × HO)) (R sa ta : Addr) (n : Nat) (M : Nat → Nat → Int) (S T : List Nat), vs = [.ref R, .ref sa, .ref ta] ∧ Has G H l ∧ RoomsAt G R n M ∧ G sa = some (.tup ((rowI S).map V.int)) ∧ G ta = some (.tup ((rowI T).map V.int)) ∧ S.Nodup ∧ (∀ s ∈ S, s < n) ∧ T.Nodup ∧ (∀ s ∈ T, s < n) ∧ n ≤ 60 ∧
  ∀ (G' H' : Hp) (u lu gu : Addr), Ex G G' → Has G' H' l → G' u = some (.tup [.ref lu, .ref gu]) → G' lu = some (.tup ((rowI (plcN n (rchB n M S))).map V.int)) → G' gu = some (.tup ((rowI (plcN n fun k => !rchB n (backM M) T k)).map V.int)) → Q (.ref u) H'
theorem ok_outer (D : Dfn K mg "_outermost_sides" s__outermost_sides ["rooms", "must", "never"]) (z : Z mg) (O_ways : Ok P w K mg base 1 "ways_from" ["starts", "rooms"] (spWays K)) : Ok P w K mg base 2 "_outermost_sides" ["rooms", "must", "never"] spOuter := D.ok fun f fd F => by
  refine F.ok sc__outermost_sides (fun vs H Q E h => ?_) (fun cdv A outer s H vs Q E hr h => ?_)
  · obtain ⟨G, l, R, sa, ta, n, M, S, T, rfl, _⟩ := h
    rfl
  · obtain ⟨G, l, R, sa, ta, n, M, S, T, rfl, SS, rm, hsa, hta, nd, hlt, ndT, hltT, hn, q⟩ := h
    refine ⟨_, (pss_cons (ps_set (i := 3) sc__outermost_sides.nd rfl (Or.inr rfl) (pe_callTy cr_range1 (by rfl) z.range (by decide +kernel) (pa_cons (pe_callB call_len_seq (by rfl) z.len PySem.boot_len (pa_cons (pv 0) pa_nil)) pa_nil)))
      (pss_cons (ps_setLc (i := 4) (own := [("other_place", 7)]) (g := gName 7) rfl sc__outermost_sides.nd rfl rfl (sw_true rfl rfl rfl (by decide +kernel)) (pi_rngV (pv 3)) (blkOk_by (N := NOS) (own := [("other_place", 7)]) (sc := defScope s__outermost_sides) (by decide +kernel)) (fun _ _ _ _ _ => pg_name (i := 7) sc__outermost_sides.nd rfl (Or.inr rfl)) (fun _ _ _ _ _ => pts_nil)
        (fun _ _ _ _ _ => (pe_lc (own := [("place", 8)]) (g := gName 8) rfl sc__outermost_sides.nd (pi_rngV (pv 3)) (blkOk_by (N := NOS) (own := [("place", 8)]) (sc := scBk) (by decide +kernel)) (fun _ _ _ _ _ => pg_name (i := 8) sc__outermost_sides.nd rfl (Or.inl rfl)) (fun _ _ _ _ _ => pts_nil) (fun _ _ _ _ _ => (pe_ix (ix_any (K := K)) (pe_ix (ix_any (K := K)) (pv 0) (pv 8) (fun _ _ => rfl)) (pv 7) (fun _ _ => rfl))))))
      (pss_cons (ps_set (i := 5) sc__outermost_sides.nd rfl (Or.inr rfl) (pe_o O_ways hr (pa_cons (pv 2) (pa_cons (pv 4) pa_nil))))
      (pss_cons (ps_set (i := 6) sc__outermost_sides.nd rfl (Or.inl rfl) (pe_callTy call_tuple_of (by rfl) z.tuple (by decide +kernel) (pa_cons (pe_callB (call_sortedDI rfl) (by rfl) z.sorted (by decide +kernel) (pa_cons (pe_o O_ways hr (pa_cons (pv 1) (pa_cons (pv 0) pa_nil))) pa_nil)) pa_nil)))
      (pss_one (ps_ret (pe_tup (pa_cons (pv 6) (pa_cons (pe_callTy call_tuple_of (by rfl) z.tuple (by decide +kernel) (pa_cons (pe_lc (own := [("place", 8)]) (g := gName 8) rfl sc__outermost_sides.nd (pi_rngV (pv 3)) (blkOk_by (N := NOS) (own := [("place", 8)]) (sc := defScope s__outermost_sides) (by decide +kernel)) (fun _ _ _ _ _ => pg_name (i := 8) sc__outermost_sides.nd rfl (Or.inl rfl))
        (fun _ _ _ _ _ => pts_one (pt_cmp (pc_dnotin (hu_of hr) (pv 8) (pv 5)))) (fun _ _ _ _ _ => (pv 8))) pa_nil)) pa_nil))))))))), ?_⟩
    obtain ⟨as, hR, la, hrows⟩ := id rm
    have lR : (refsA as).length = n := by unfold refsA; rw [List.length_map]; exact la
    refine ⟨_, rfl, R, _, rfl, .inl (Evl.sq_of (SS.ex _ _ hR)), _, rfl, fun pr npr => ?_⟩
    obtain ⟨G1, e1, hpr, S1⟩ := SS.newG (o := .rng 0 ((refsA as).length : Nat)) npr
    generalize upd H pr (.rng 0 ((refsA as).length : Nat)) = H1 at S1
    rw [lR] at hpr
    have b62 : -(2 ^ 62) ≤ (0 : Int) ∧ (0 : Int) < 2 ^ 62 ∧ -(2 ^ 62) ≤ (n : Int) ∧ (n : Int) < 2 ^ 62 := ⟨by omega, by omega, by omega, by omega⟩
    have en : ((n : Int) - 0).toNat = n := by omega
    have rm1 := rm.ex e1
    -- the rooms turned about
    refine ⟨_, rfl, pr, 0, n, rfl, S1.ex _ _ hpr, b62, fun D1 hD1 => ?_⟩
    rw [en]
    refine lc_range (lo := 0) (n := n) (fun i H' => ∃ bs : List Addr, bs.length = i ∧ Has G1 H' ((D1, .lst (refsA bs)) :: (rowsC bs (backM M) n ++ l))) ⟨[], rfl, S1.new hD1⟩ ?_ ?_
    · rintro i H2 hi ⟨bs, lb, S2⟩
      rw [Int.zero_add]
      refine ⟨rfl, _, rfl, pr, 0, n, rfl, S2.ex _ _ hpr, b62, fun D2 hD2 => ?_⟩
      rw [en]
      refine lc_range (lo := 0) (n := n) (fun j H' => Has G1 H' ((D2, .lst (((List.range j).map fun b => M b i).map V.int)) :: (D1, .lst (refsA bs)) :: (rowsC bs (backM M) n ++ l))) (S2.new hD2) ?_ ?_
      · rintro j H3 hj S3
        rw [Int.zero_add]
        obtain ⟨as', ra, g1, g2, g3, g4⟩ := (rm1.ex S3.ex).get hj
        refine ⟨rfl, _, rfl, _, rfl, .inl ⟨R, _, j, _, rfl, rfl, Evl.sq_of g1, atI_nat g3, _, rfl, .inl ⟨ra, _, i, _, rfl, rfl, Evl.sq_of g4, atI_nat (rowM_at hi), _, S3.get 0 rfl, szl (by rw [List.length_map, List.length_map, List.length_range]; omega), ?_⟩⟩⟩
        show Has G1 _ _
        rw [List.range_succ, List.map_append, List.map_append]
        exact S3.set 0 rfl
      rintro H3 S3
      have S3 : Has G1 H3 ((D2, .lst ((rowM (backM M) n bs.length).map V.int)) :: (D1, .lst (refsA bs)) :: (rowsC bs (backM M) n ++ l)) := by
        rw [lb]
        exact S3
      refine ⟨refsA bs, S3.get 1 rfl, szl (by unfold refsA; rw [List.length_map]; omega), bs ++ [D2], by rw [List.length_append, lb]; rfl, ?_⟩
      have S4 : Has G1 (upd H3 D1 (.lst (refsA bs ++ [V.ref D2]))) ((D2, .lst ((rowM (backM M) n bs.length).map V.int)) :: (D1, .lst (refsA bs ++ [V.ref D2])) :: (rowsC bs (backM M) n ++ l)) := S3.set 1 rfl
      have e1 : refsA (bs ++ [D2]) = refsA bs ++ [V.ref D2] := List.map_append
      rw [e1, rowsC_snoc]
      refine S4.perm ?_
      rw [List.append_assoc]
      exact (List.Perm.swap _ _ _).trans ((List.perm_middle (l₁ := rowsC bs (backM M) n)).symm.cons _)
    rintro H2 ⟨bs, lb, S2'⟩
    obtain ⟨G2, e2, rmB, S2⟩ := S2'.sinkRooms lb
    have e12 := e1.trans e2
    -- barred
    refine ⟨_, rfl, _, rfl, ta, D1, n, backM M, T, rfl, .inr (Evl.st_of (S2.ex _ _ (e12 _ _ hta))), ndT, hltT, by omega, rmB.ex S2.ex, fun H3 Db kb e3 nDb hDb FB => ?_⟩
    obtain ⟨G3, e23, hDb', S3⟩ := (S2.newE e3 nDb hDb).sinkG
    have e13 := e12.trans e23
    -- least
    refine ⟨_, rfl, _, rfl, sa, R, n, M, S, rfl, .inr (Evl.st_of (S3.ex _ _ (e13 _ _ hsa))), nd, hlt, by omega, (rm.ex e13).ex S3.ex, fun H4 Da ks e4 nDa hDa FW => ?_⟩
    have S4 := S3.newE e4 nDa hDa
    have kl := FW.way.len hlt
    refine ⟨Da, _, rowI (ks.map (·.1)), rfl, .inl hDa, by unfold rowI; rw [List.map_map, List.map_map, List.map_map]; rfl, by rw [rowI_len, List.length_map]; omega, fun zs p2 pm up np2 => ?_⟩
    have ez := sorted_side hlt FW pm up
    have S5 := S4.new (o := .lst (zs.map V.int)) np2
    generalize upd H4 p2 (.lst (zs.map V.int)) = H5 at S5
    refine ⟨p2, _, rfl, .inl ⟨Evl.sq_of (S5.get 0 rfl), fun t nt => ?_⟩⟩
    have S6' := (S5.new (o := .tup (zs.map V.int)) nt).drop2.drop2
    obtain ⟨G6, e6, ht, S6⟩ := S6'.sinkG
    rw [ez] at ht
    generalize upd H5 t (.tup (zs.map V.int)) = H6 at S6
    have e16 := e13.trans e6
    -- greatest
    refine ⟨_, rfl, _, rfl, pr, 0, n, rfl, S6.ex _ _ ((e2.trans (e23.trans e6)) _ _ hpr), b62, fun D3 hD3 => ?_⟩
    rw [en]
    refine lc_range (lo := 0) (n := n) (fun i H' => Has G6 H' ((D3, .lst ((rowI ((List.range i).filter fun k => !rchB n (backM M) T k)).map V.int)) :: l)) (S6.new hD3) ?_ ?_
    · rintro i H7 hi S7
      rw [Int.zero_add]
      refine ⟨rfl, _, rfl, _, rfl, Db, _, rfl, DGet.k (k := Sum.inl (i : Int)) (S7.ex _ _ (e6 _ _ hDb')), _, rfl, ?_⟩
      rw [valW, show decide (i ∈ kb.map (·.1)) = rchB n (backM M) T i from by
        rw [Bool.eq_iff_iff, decide_eq_true_eq, FB.mem hltT, rch_iff]]
      have ll : ((List.range i).filter fun k => !rchB n (backM M) T k).length ≤ i := by
        have := List.length_filter_le (fun k => !rchB n (backM M) T k) (List.range i)
        rw [List.length_range] at this
        exact this
      cases hc : !rchB n (backM M) T i with
      | true =>
        refine ⟨_, rfl, _, S7.get 0 rfl, szl (by rw [List.length_map, rowI_len]; omega), ?_⟩
        show Has G6 _ _
        rw [List.range_succ, List.filter_append, List.filter_cons_of_pos (by exact hc), List.filter_nil, ← rowI_snocV]
        exact S7.set 0 rfl
      | false =>
        show Has G6 _ _
        rw [List.range_succ, List.filter_append, List.filter_cons_of_neg (by rw [hc]; decide), List.filter_nil, List.append_nil]
        exact S7
    rintro H7 S7
    refine ⟨D3, _, rfl, .inl ⟨Evl.sq_of (S7.get 0 rfl), fun t2 nt2 => ?_⟩⟩
    obtain ⟨G8, e8, ht2, S8⟩ := (S7.new (o := .tup ((rowI ((List.range n).filter fun k => !rchB n (backM M) T k)).map V.int)) nt2).drop2.sinkG
    refine ⟨sz (by show 2 ≤ 100000; decide), fun u nu => ?_⟩
    obtain ⟨G9, e9, hu, S9⟩ := S8.newG (o := .tup [.ref t, .ref t2]) nu
    exact q G9 _ u t t2 ((e16.trans e8).trans e9) S9 hu (e9 _ _ (e8 _ _ ht)) (e9 _ _ ht2)
end
end TW
set_option Elab.async false
set_option linter.all false
set_option maxRecDepth 100000
set_option maxHeartbeats 1000000
namespace TW
open PySem PySem.Spec PyProof.Rows L2
/-- a side: ascending places below n -/
structure SideOk (n : Nat) (S : List Nat) : Prop where
  up : S.Pairwise (· < ·)
  lt : ∀ k ∈ S, k < n
theorem SideOk.nd {n : Nat} {S : List Nat} (h : SideOk n S) : S.Nodup := h.up.imp fun {a b} q => by omega
theorem SideOk.len {n : Nat} {S : List Nat} (h : SideOk n S) : S.length ≤ n := by
  have := nodup_lenG h.nd (ys := List.range n) fun k hk => List.mem_range.mpr (h.lt k hk)
  rw [List.length_range] at this
  exact this
theorem SideOk.lot {n : Nat} {S : List Nat} (h : SideOk n S) : isLot (rowI S) (some (n : Int)) = true := by
  unfold isLot
  rw [Bool.and_eq_true]
  refine ⟨List.all_eq_true.mpr fun x hx => ?_, up_asc ?_⟩
  · unfold rowI at hx
    obtain ⟨k, hk, e⟩ := List.mem_map.mp hx
    have := h.lt k hk
    rw [Bool.and_eq_true, decide_eq_true_eq]
    exact ⟨by omega, decide_eq_true (show x < (n : Int) by omega)⟩
  · unfold Up rowI
    rw [List.pairwise_map]
    exact h.up.imp fun {a b} q => by omega
theorem side_ok (n : Nat) (f : Nat → Bool) : SideOk n (plcN n f) := ⟨List.pairwise_lt_range.filter _, fun k hk => (mem_side.mp hk).1⟩
theorem cut_side {n : Nat} {ts : List Arc} (h : ∀ t ∈ ts, arcOk n t) (f : Nat → Bool) : (cutA ts fun k => decide ((k : Int) ∈ rowI (plcN n f))) = cutA ts f := cutA_congrN h fun k hk => by
  rw [Bool.eq_iff_iff, decide_eq_true_eq, rowI_in, mem_side]
  exact ⟨fun q => q.2, fun q => ⟨hk, q⟩⟩
section
variable {P : Program} {w : World} {K : PySem.W.Frag} {mg : Str → Option Value} {base : Heap} {C N : Addr}
/-! check_never, _check_between -/
abbrev NCN : List Str := ["never", "must", "places", "place"]
theorem sc_check_never : FnScope NCN ["never", "must", "places"] (defScope s_check_never) := ⟨rfl, rfl, rfl, by decide +kernel, rfl, by decide +kernel, by decide +kernel⟩
def spCheckNever (K : PySem.W.Frag) : Sp := fun vs H Q _ => ∃ (ta sa : Addr) (n : Nat) (S T : List Nat), vs = [.ref ta, .ref sa, .int n] ∧ SqT K H ta ((rowI T).map V.int) ∧ SqT K H sa ((rowI S).map V.int) ∧ SideOk n T ∧ n ≤ 1000 ∧ (∀ s ∈ S, s ∉ T) ∧ ∀ H', Ex H H' → Q .non H'
theorem ok_check_never (D : Dfn K mg "check_never" s_check_never ["never", "must", "places"]) (z : Z mg) (O_side : Ok P w K mg base 5 "check_side" ["side", "places"] (spCheckLot K)) : Ok P w K mg base 6 "check_never" ["never", "must", "places"] (spCheckNever K) := D.ok fun f fd F => by
  refine F.ok sc_check_never (fun vs H Q E h => ?_) (fun cdv A outer s H vs Q E hr h => ?_)
  · obtain ⟨ta, sa, n, S, T, rfl, _⟩ := h
    rfl
  · obtain ⟨ta, sa, n, S, T, rfl, hT, hS, okT, hn, apart, q⟩ := h
    refine ⟨_, (pss_cons (ps_expr (pe_o O_side hr (pa_cons (pv 0) (pa_cons (pv 2) pa_nil))))
      (pss_one (ps_if (pt_val (pe_callB (cr_any rfl) (by rfl) z.any (by decide +kernel) (pa_cons (pe_lc (own := [("place", 3)]) (g := gName 3) rfl sc_check_never.nd (pi_tup (pv 0)) (blkOk_by (N := NCN) (own := [("place", 3)]) (sc := defScope s_check_never) (by decide +kernel)) (fun _ _ _ _ _ => pg_name (i := 3) sc_check_never.nd rfl (Or.inl rfl)) (fun _ _ _ _ _ => pts_nil) (fun _ _ _ _ _ => (pe_cmpR (op_inK (K := K)) (pv 3) (pv 1) (by rfl)))) pa_nil))) (pss_one ps_never) pss_nil))), ?_⟩
    have lT := okT.len
    refine ⟨_, rfl, _, rfl, ta, rowI T, some (n : Int), rfl, hT, by rw [rowI_len]; omega, okT.lot, fun H1 e1 => ?_⟩
    refine ⟨_, rfl, ta, rfl, ⟨_, Evl.ex_t e1 hT⟩, fun D1 hD1 => ?_⟩
    refine lc_tup (K := K) (a := ta) (xs := (rowI T).map V.int) (fun i H' => Has H1 H' [(D1, .lst (((List.range i).map fun _ => false).map V.bl))]) (Has.nil.new hD1) (fun i H' _ S' => Evl.ex_t (e1.trans S'.ex) hT) ?_ ?_
    · rintro i x H2 hi S2
      obtain ⟨y, hy, rfl⟩ := map_get hi
      obtain ⟨k, rfl, hk⟩ := rowI_get hy
      have li := (List.getElem?_eq_some_iff.mp hk).1
      refine ⟨rfl, _, rfl, _, rfl, sa, _, rfl, .inr (Evl.ex_t (e1.trans S2.ex) hS), rfl, flat_ints _, ?_⟩
      rw [if_neg (by decide), inV_int, decide_eq_false (fun h => apart k (rowI_in.mp h) (List.mem_of_getElem? hk))]
      refine ⟨_, S2.get 0 rfl, szl (by rw [List.length_map, List.length_map, List.length_range]; omega), ?_⟩
      show Has H1 _ _
      rw [List.range_succ, List.map_append, List.map_append]
      exact S2.set 0 rfl
    rintro H2 S2
    refine ⟨D1, _, rfl, Evl.sq_of (S2.get 0 rfl), _, rfl, ?_⟩
    rw [show (((List.range ((rowI T).map V.int).length).map fun _ => false).any id) = false from by
      rw [List.any_map]
      exact List.any_eq_false.mpr fun x _ => Bool.false_ne_true]
    exact q H2 (e1.trans S2.ex)
abbrev NCB : List Str := ["web", "must", "never"]
theorem sc__check_between : FnScope NCB ["web", "must", "never"] (defScope s__check_between) := ⟨rfl, rfl, rfl, by decide +kernel, rfl, by decide +kernel, by decide +kernel⟩
def spBetween2 (K : PySem.W.Frag) (C : Addr) : Sp := fun vs H Q _ => ∃ (a sa ta : Addr) (n : Nat) (ts : List Arc) (S T : List Nat), vs = [.ref a, .ref sa, .ref ta] ∧ WebAt C H a n ts ∧ SqT K H sa ((rowI S).map V.int) ∧ SqT K H ta ((rowI T).map V.int) ∧ SideOk n S ∧ SideOk n T ∧ n ≤ 1000 ∧ (∀ s ∈ S, s ∉ T) ∧ ∀ H', Ex H H' → Q .non H'
theorem ok_check_between {gp gg : Addr} {gpd : FuncData} (D : Dfn K mg "_check_between" s__check_between ["web", "must", "never"]) (T : WC K mg C) (PP : TG P w K mg base C gp gg gpd "places" (spWPlaces C)) (O_web : Ok P w K mg base 1 "check_web" ["web"] (spCheckWeb C)) (O_side : Ok P w K mg base 5 "check_side" ["side", "places"] (spCheckLot K)) (O_never : Ok P w K mg base 6 "check_never" ["never", "must", "places"] (spCheckNever K)) : Ok P w K mg base 7 "_check_between" ["web", "must", "never"] (spBetween2 K C) := D.ok fun f fd F => by
  refine F.ok sc__check_between (fun vs H Q E h => ?_) (fun cdv A outer s H vs Q E hr h => ?_)
  · obtain ⟨a, sa, ta, n, ts, S, T, rfl, _⟩ := h
    rfl
  · obtain ⟨a, sa, ta, n, ts, S, T2, rfl, web, hS, hT, okS, okT, hn, apart, q⟩ := h
    obtain ⟨dx, l, xs, h1, h2, h3⟩ := id web
    refine ⟨_, (pss_cons (ps_expr (pe_o O_web (hr.mono (by decide)) (pa_cons (pv 0) pa_nil)))
      (pss_cons (ps_expr (pe_o O_side (hr.mono (by decide)) (pa_cons (pv 1) (pa_cons (pe_prop (pv 0) T.cl PP.at_ PP.ok (hr.mono (by decide)) PP.b .nil pass0 rfl) pa_nil))))
      (pss_one (ps_expr (pe_o O_never hr (pa_cons (pv 2) (pa_cons (pv 1) (pa_cons (pe_prop (pv 0) T.cl PP.at_ PP.ok (hr.mono (by decide)) PP.b .nil pass0 rfl) pa_nil)))))))), ?_⟩
    have lS := okS.len
    refine ⟨_, rfl, a, n, ts, rfl, web, ?_⟩
    refine ⟨_, rfl, _, rfl, a, dx, _, rfl, h1, a, n, ts, rfl, web, sa, rowI S, some (n : Int), rfl, hS, by rw [rowI_len]; omega, okS.lot, fun H1 e1 => ?_⟩
    exact ⟨_, rfl, _, rfl, _, rfl, a, dx, _, rfl, e1 _ _ h1, a, n, ts, rfl, web.ex e1, ta, sa, n, S, T2, rfl, Evl.ex_t e1 hT, Evl.ex_t e1 hS, okT, hn, apart, fun H2 e2 => q H2 (e1.trans e2)⟩
/-! least_cut -/
abbrev NLCU : List Str := ["web", "must", "never", "rooms", "least", "greatest"]
def spLeast (C : Addr) : Sp := fun vs H Q _ => ∃ (G : Hp) (l : List (Addr × HO)) (a sa ta : Addr) (n : Nat) (ts : List Arc) (S T : List Nat), vs = [.ref a, .ref sa, .ref ta] ∧ Has G H l ∧ WebAt C G a n ts ∧ Net n ts ∧ n ≤ 60 ∧ G sa = some (.tup ((rowI S).map V.int)) ∧ G ta = some (.tup ((rowI T).map V.int)) ∧ SideOk n S ∧ SideOk n T ∧ (∀ s ∈ S, s ∉ T) ∧
  ∀ (G' H' : Hp) (u lu gu : Addr) (M : Nat → Nat → Int) (W : Nat), Ex G G' → Has G' H' l → Flow ts n S T M W → (∀ t ∈ T, ¬ ∃ s ∈ S, Rch n M s t) → G' u = some (.tup [.int W, .ref lu, .ref gu]) → G' lu = some (.tup ((rowI (plcN n (rchB n M S))).map V.int)) → G' gu = some (.tup ((rowI (plcN n fun k => !rchB n (backM M) T k)).map V.int)) → Q (.ref u) H'
end
end TW
set_option Elab.async false
set_option linter.all false
set_option maxRecDepth 100000
set_option maxHeartbeats 2000000
/-! t[::-1], t a tuple -/
namespace TW
open PySem PySem.Spec PyProof.Rows L2 HT
theorem adj_rev (n : Nat) : Builtin.Slice.sliceAdjust none none (-1) (n : Int) = ((n : Int) - 1, -1) := by
  unfold Builtin.Slice.sliceAdjust
  simp
theorem plc_rev (n : Nat) : Builtin.Slice.slicePlaces ((n : Int) - 1) (-1) (-1) = n := by
  unfold Builtin.Slice.slicePlaces
  simp
  split <;> omega
theorem fm_congr {α β : Type} {f g : α → Option β} : ∀ {l : List α}, (∀ x ∈ l, f x = g x) → l.filterMap f = l.filterMap g
  | [], _ => rfl
  | x :: l, h => by rw [List.filterMap_cons, List.filterMap_cons, h x List.mem_cons_self, fm_congr fun y hy => h y (List.mem_cons_of_mem _ hy)]
theorem pick_rev (xs : Array Value) : (List.range xs.size).filterMap (fun (m : Nat) => xs[((xs.size : Int) - 1 + (m : Int) * (-1)).toNat]?) = xs.toList.reverse := by
  have e : ∀ m ∈ List.range xs.size, xs[((xs.size : Int) - 1 + (m : Int) * (-1)).toNat]? = xs.toList.reverse[m]? := fun m hm => by
    have := List.mem_range.mp hm
    rw [List.getElem?_reverse (by rw [Array.length_toList]; exact this), Array.length_toList, show ((xs.size : Int) - 1 + (m : Int) * (-1)).toNat = xs.size - 1 - m by omega]
    simp
  rw [fm_congr e]
  have gen : ∀ l : List Value, (List.range l.length).filterMap (fun m => l[m]?) = l := fun l => by
    induction l with
    | nil => rfl
    | cons x l ih =>
      rw [List.length_cons, List.range_succ_eq_map, List.filterMap_cons, List.filterMap_map]
      exact congrArg (x :: ·) ih
  have := gen xs.toList.reverse
  rw [List.length_reverse, Array.length_toList] at this
  exact this
section
variable {prog : Program} {w : World} {A : Around} {E : Value → Shared → Prop} {s : Shared}
theorem applied_rev {sl : Addr} {vl vu vs : Value} {n : Nat} {Q : Int × Int × Nat → Shared → Prop} (hs : s.heap.IsSliceOf sl vl vu vs) (pl : IsPart vl none) (pu : IsPart vu none) (ps : IsPart vs (some (-1)))
    (h : Q ((n : Int) - 1, -1, n) s) : wpAny (model prog w) A (Builtin.Slice.sliceApplied (.ref sl) (pure (n : Int))) Q E s := by
  obtain ⟨os, hos, hcs, hds⟩ := id hs
  unfold Builtin.Slice.sliceApplied Builtin.Slice.sliceFields
  refine wpAny_bind (wpAny_bind (wpAny_field hos hds (x := vl) rfl (wpAny_bind (wpAny_field hos hds (x := vu) rfl (wpAny_bind (wpAny_field hos hds (x := vs) rfl (wpAny_pure ?_)))))))
  refine wpAny_bind (slicePart_ ps ?_)
  show wpAny _ _ (if ((-1 : Int) == 0) = true then _ else _) _ _ s
  rw [if_neg (by decide)]
  refine wpAny_bind (slicePart_ pl (wpAny_bind (slicePart_ pu (wpAny_bind (wpAny_pure ?_)))))
  show wpAny _ _ (match Builtin.Slice.sliceAdjust none none (-1) (n : Int) with | (lo, hi) => pure (lo, (-1 : Int), Builtin.Slice.slicePlaces lo hi (-1))) _ _ s
  rw [adj_rev n]
  show wpAny _ _ (pure ((n : Int) - 1, (-1 : Int), Builtin.Slice.slicePlaces ((n : Int) - 1) (-1) (-1))) _ _ s
  rw [plc_rev]
  exact wpAny_pure h
theorem getItem_rev {t sl : Addr} {items : Array Value} {vl vu vs : Value} {Q : Value → Shared → Prop} (ht : IsTup s.heap t items) (hs : s.heap.IsSliceOf sl vl vu vs) (pl : IsPart vl none) (pu : IsPart vu none) (ps : IsPart vs (some (-1)))
    (h : Q (.ref s.heap.objs.size) { s with heap := s.heap.push { cls := .type "tuple", data := .seq items.toList.reverse.toArray } }) (hsz : items.size ≤ sizeLine) : wpAny (model prog w) A (getItem (.ref t) (.ref sl)) Q E s := by
  have hz : sizeOk (.seq items.toList.reverse.toArray) := by
    change items.toList.reverse.toArray.size ≤ sizeLine
    rw [List.size_toArray, List.length_reverse, Array.length_toList]
    exact hsz
  obtain ⟨os, hos, hcs, hds⟩ := id hs
  have hTs : s.TypeIs (.ref sl) "slice" := ⟨os, hos, hcs⟩
  unfold getItem
  first | (with_reducible refine wpAny_holding ?_) | skip
  first | refine wpAny_bind (wpAny_pure ?_) | skip
  refine wpAny_bind (wpAny_sequenceKey ht.typeIs (by decide) (wpAny_bind (wpAny_callSpecial?_slot (name := Str.ofString "__getitem__") ht.typeIs PyProof.Rows.slot_tuple_getitem
    (wpAny_call_entry PyProof.Rows.slot_tuple_getitem ht.typeIs entry_tuple_getitem ?_ (args_tuple_getitem _ _)))))
  change wpAny _ _ (Builtin.Tuple.tupleItemsOf (.ref t) >>= _) _ _ s
  refine wpAny_bind (tupleItemsOf_ ht (wpAny_bind (wpAny_typeOf hTs ?_)))
  rw [if_pos (by decide)]
  refine wpAny_bind (applied_rev (n := items.size) hs pl pu ps ?_)
  have hno : ¬ (((items.size : Int) - 1 == 0 && (-1 : Int) == 1 && items.size == items.size) = true) := by
    rw [show ((-1 : Int) == 1) = false from rfl, Bool.and_false, Bool.false_and]
    decide
  change wpAny _ _ (if ((items.size : Int) - 1 == 0 && (-1 : Int) == 1 && items.size == items.size) = true then _ else _) _ _ s
  rw [if_neg hno, pick_rev]
  first
    | exact wpAny_bind (wpAny_bind (m := Builtin.Tuple.tupleExact _) (wpAny_newObj_type (wpAny_pure ⟨_, rfl, wpAny_pure h⟩) hz))
    | exact wpAny_bind (m := Builtin.Tuple.tupleExact _) (wpAny_newObj_type (wpAny_pure ⟨_, rfl, wpAny_pure h⟩) hz)
    | exact wpAny_bind (m := Builtin.Tuple.tupleExact _) (wpAny_newObj_type (wpAny_bind (wpAny_pure (wpAny_pure ⟨_, rfl, wpAny_pure h⟩))) hz)
    | exact wpAny_bind (wpAny_bind (m := Builtin.Tuple.tupleExact _) (wpAny_newObj_type (wpAny_pure (wpAny_pure ⟨_, rfl, wpAny_pure h⟩)) hz))
end
def tRevT (K : PySem.W.Frag) (te : TE) : TE := fun σ H Q => te σ H fun x H1 => ∃ a xs, x = .ref a ∧ SqT K H1 a xs ∧ ∀ p, H1 p = none → Q (.ref p) (upd H1 p (.tup xs.reverse))
theorem pe_revT {X : Cx} {e : Expr} {te : TE} {k : Nat} {p1 p2 p3 pos : Pos} (he : PE X e te) : PE X (.Subscript e (.Slice none none (some (.UnaryOp .USub (.Constant (.int 1) k p1) p2)) p3) pos) (tRevT X.K te) := by
  refine ⟨fun pins s σ H Q I h => Subscript_ (thn (he.run pins s σ H _ I h) fun v s1 y => ?_)⟩
  obtain ⟨x, H1, I1, r1, a, xs, rfl, hx, q⟩ := y
  cases r1
  have hst : PO X (some (.UnaryOp .USub (.Constant (.int 1) k p1) p2)) (tPart (tUn (rU fun i => .int (-i)) (tC (.int 1)))) := po_some (pe_un un_neg pe_int)
  refine wpAny_Slice (thn (po_none.run pins s1 σ H1 (fun o H2 => o = none ∧ H2 = H1) I1 ⟨rfl, rfl⟩) fun vl s2 y2 => ?_)
  obtain ⟨l, H2, I2, pl, rfl, rfl⟩ := y2
  refine thn (po_none.run pins s2 σ H2 (fun o H3 => o = none ∧ H3 = H2) I2 ⟨rfl, rfl⟩) fun vu s3 y3 => ?_
  obtain ⟨u, H3, I3, pu, rfl, rfl⟩ := y3
  refine thn (hst.run pins s3 σ H3 (fun o H4 => o = some (-1) ∧ H4 = H3) I3 ⟨1, rfl, -1, rfl, rfl, rfl⟩) fun vs s4 y4 => ?_
  obtain ⟨o, H4, I4, ps, rfl, rfl⟩ := y4
  have I5 : Inv X pins σ H4 { s4 with heap := s4.heap.push { cls := .type "slice", data := .fields #[vl, vu, vs] } } := I4.kept (t' := s4.toks) fun b ob q => Heap.get?_push_of_some _ q
  obtain ⟨its, r, ht, hz⟩ := I5.tuple hx
  have hlen := r.length
  change wpAny (model X.prog X.w) X.A (subscriptTail e (.Slice none none (some (.UnaryOp .USub (.Constant (.int 1) k p1) p2)) p3) (.ref a) (.ref s4.heap.objs.size)) (EP X pins σ Q) X.xe _
  refine tail_any (ops := [.ref a, .ref s4.heap.objs.size]) ht.typeIs PyProof.Rows.slot_tuple_getitem.lookup ?_ (by with_unfolding_all rfl)
  refine getItem_rev ht (Heap.IsSliceOf.new _ vl vu vs) pl pu ps ?_ (by rw [List.size_toArray]; omega)
  refine ⟨.ref _, _, I5.laid (t' := s4.toks) (o := .tup xs.reverse) (fun b ob q => Heap.get?_push_of_some _ q) (Nat.le_refl _) ?_, rfl, q _ (I5.hok.fresh (Nat.le_refl _))⟩
  exact ⟨by rw [List.length_reverse]; exact hz, its.reverse, r.reverse, _, Heap.get?_push_size _ rfl, rfl, 0, by simp⟩
end TW
set_option Elab.async false
set_option linter.all false
set_option maxRecDepth 100000
set_option maxHeartbeats 1000000
/-! t[::-1] of a tuple, the made object known -/
namespace TW
open PySem PySem.Spec PyProof.Rows L2 HT
def tRevTF (K : PySem.W.Frag) (te : TE) : TE := fun σ H Q => te σ H fun x H1 => ∃ a xs, x = .ref a ∧ SqT K H1 a xs ∧ ∀ (p : Addr) (o : Obj), H1 p = none → o.cls = .type "tuple" → o.dict = none → Q (.ref p) (upd H1 p (.frz o (.tup xs.reverse)))
theorem pe_revTF {X : Cx} {e : Expr} {te : TE} {k : Nat} {p1 p2 p3 pos : Pos} (he : PE X e te) : PE X (.Subscript e (.Slice none none (some (.UnaryOp .USub (.Constant (.int 1) k p1) p2)) p3) pos) (tRevTF X.K te) := by
  refine ⟨fun pins s σ H Q I h => Subscript_ (thn (he.run pins s σ H _ I h) fun v s1 y => ?_)⟩
  obtain ⟨x, H1, I1, r1, a, xs, rfl, hx, q⟩ := y
  cases r1
  have hst : PO X (some (.UnaryOp .USub (.Constant (.int 1) k p1) p2)) (tPart (tUn (rU fun i => .int (-i)) (tC (.int 1)))) := po_some (pe_un un_neg pe_int)
  refine wpAny_Slice (thn (po_none.run pins s1 σ H1 (fun o H2 => o = none ∧ H2 = H1) I1 ⟨rfl, rfl⟩) fun vl s2 y2 => ?_)
  obtain ⟨l, H2, I2, pl, rfl, rfl⟩ := y2
  refine thn (po_none.run pins s2 σ H2 (fun o H3 => o = none ∧ H3 = H2) I2 ⟨rfl, rfl⟩) fun vu s3 y3 => ?_
  obtain ⟨u, H3, I3, pu, rfl, rfl⟩ := y3
  refine thn (hst.run pins s3 σ H3 (fun o H4 => o = some (-1) ∧ H4 = H3) I3 ⟨1, rfl, -1, rfl, rfl, rfl⟩) fun vs s4 y4 => ?_
  obtain ⟨o, H4, I4, ps, rfl, rfl⟩ := y4
  have I5 : Inv X pins σ H4 { s4 with heap := s4.heap.push { cls := .type "slice", data := .fields #[vl, vu, vs] } } := I4.kept (t' := s4.toks) fun b ob q => Heap.get?_push_of_some _ q
  obtain ⟨its, r, ht, hz⟩ := I5.tuple hx
  have hlen := r.length
  change wpAny (model X.prog X.w) X.A (subscriptTail e (.Slice none none (some (.UnaryOp .USub (.Constant (.int 1) k p1) p2)) p3) (.ref a) (.ref s4.heap.objs.size)) (EP X pins σ Q) X.xe _
  refine tail_any (ops := [.ref a, .ref s4.heap.objs.size]) ht.typeIs PyProof.Rows.slot_tuple_getitem.lookup ?_ (by with_unfolding_all rfl)
  refine getItem_rev ht (Heap.IsSliceOf.new _ vl vu vs) pl pu ps ?_ (by rw [List.size_toArray]; omega)
  generalize hob : ({ cls := .type "tuple", data := .seq its.toArray.toList.reverse.toArray } : Obj) = ob
  have e1 : ob.cls = .type "tuple" ∧ ob.dict = none := by
    rw [← hob]
    exact ⟨rfl, rfl⟩
  have fr : ob.isFreed = false := by
    rw [← hob]
    rfl
  refine ⟨.ref _, _, I5.laid (t' := s4.toks) (o := .frz ob (.tup xs.reverse)) (fun b ob q => Heap.get?_push_of_some _ q) (Nat.le_refl _) ?_, rfl, q _ ob (I5.hok.fresh (Nat.le_refl _)) e1.1 e1.2⟩
  refine ⟨Heap.get?_push_size _ fr, by rw [List.length_reverse]; exact hz, its.reverse, r.reverse, ?_⟩
  refine ⟨_, Heap.get?_push_size _ fr, ?_⟩
  rw [← hob]
  exact ⟨rfl, 0, by simp⟩
end TW
set_option Elab.async false
set_option linter.all false
set_option maxRecDepth 100000
set_option maxHeartbeats 2000000
/-! list(reversed(x)), x a list -/
namespace TW
open PySem PySem.Spec PyProof.Rows L2
theorem nolen_lri : typeLookup (.type "list_reverseiterator") "__len__" = pure none := by rw [typeLookup_type, builtinLookup_eq_fast]; kernel_rfl
theorem hint_lri : typeLookup (.type "list_reverseiterator") "__length_hint__" = pure (some (.builtin "list_reverseiterator.__length_hint__")) := by rw [typeLookup_type, builtinLookup_eq_fast]; kernel_rfl
section
variable {prog : Program} {w : World} {A : Around} {s : Shared} {R : Result → Shared → Prop} {I : Addr} {fp wr : List Addr} {G : Array GenState → Array GenState → Prop} {n : Nat} {P : Nat → Value → Prop} {St : Nat → Shared → Prop} {E : Value → Shared → Prop}
theorem extend_lri (W : WalksS prog w A.in1 I fp wr G n P St) (hT : ∀ i s, St i s → s.TypeIs (.ref I) "list_reverseiterator") (S : Addr) (res : Value) (c₀ : Nat) (hst : St 0 s) (hSf : S ∉ fp) (hI : I ∈ fp)
    (hS : s.heap.get? S = some { cls := .type "list", data := .seq #[] c₀ })
    (hR : ∀ s' acc' c', Moved (S :: wr) G s s' → s'.heap.get? S = some { cls := .type "list", dict := none, data := .seq acc' c', slots := #[] } → ItemsOf P acc' n → R (.ok (.ret res)) s') (hn : n ≤ sizeLine) :
    wpAny (model prog w) A.in1 (Builtin.List.listExtendWith (.ref S) (.ref I) res) (fun fin s' => match fin with | .done f => R (.ok f) s' | .again c' => c'.quiet = true ∧ codeAny (model prog w) A c' R s') (fun e s' => R (.error e) s') s := by
  have hSI : S ≠ I := fun e => hSf (e ▸ hI)
  have h1 : Builtin.List.listSameRef (.ref S) (.ref I) = false := by simp [Builtin.List.listSameRef, hSI]
  unfold Builtin.List.listExtendWith
  refine wpAny_bind (wpAny_typeOf (hT 0 _ hst) ?_)
  rw [if_neg (by rw [h1]; decide)]
  refine wpAny_bind (W.self 0 _ _ _ hst (wpAny_bind (wpAny_holding ?_)))
  unfold Builtin.List.listLengthHint
  refine wpAny_bind (wpAny_specialOf (hT 0 _ hst) nolen_lri ?_)
  show wpAny _ A.in1 (specialOf (Value.ref I) (Str.ofString "__length_hint__") >>= _) _ _ _
  refine wpAny_bind (wpAny_specialOf (hT 0 _ hst) hint_lri ?_)
  (generalize hid : ("list_reverseiterator.__length_hint__" : String) = id0; (fail_if_success (clear hid id0)); wp_delta; rw [show splitId id0 = some ("list_reverseiterator", "__length_hint__") from by subst hid; decide +kernel]; subst hid)
  refine wpAny_bind (wpAny_isInstance (b := true) (hT 0 _ hst) (by rw [isSubtype_type]; kernel_rfl) (wpAny_pure ?_))
  rw [if_neg (by decide)]
  refine wpAny_pure ⟨plainId_quiet F.plain_extend_loop _, codeAny_extend_loopS W hn _ hSf _ n 0 _ _ _ rfl (Nat.zero_le _) hst hS (ItemsOf.nil P) fun s' acc' c' hm hS' hacc => ?_⟩
  exact hR s' acc' c' hm hS' hacc
theorem call_list_lri {Q : Value → Shared → Prop} (W : WalksS prog w A.in1.in1 I fp wr G n P St) (hT : ∀ i s, St i s → s.TypeIs (.ref I) "list_reverseiterator") (hst : St 0 s) (hfp : ∀ b ∈ fp, b < s.heap.objs.size) (hI : I ∈ fp)
    (hQ : ∀ s' acc' c', Moved (s.heap.objs.size :: wr) G { s with heap := s.heap.push { cls := .type "list", data := .seq #[] } } s' → s'.heap.get? s.heap.objs.size = some { cls := .type "list", dict := none, data := .seq acc' c', slots := #[] } → ItemsOf P acc' n → Q (.ref s.heap.objs.size) s') (hn : n ≤ sizeLine) :
    wpAny (model prog w) A (call (.type "list") [.ref I]) Q E s := by
  have hSf : s.heap.objs.size ∉ fp := fun hm => Nat.lt_irrefl _ (hfp _ hm)
  refine callType_codes (Q₁ := fun obj s₁ => obj = .ref s.heap.objs.size ∧ s₁ = { s with heap := s.heap.push { cls := .type "list", data := .seq #[] } }) F.called_list (F.typeCall_list_1 _) F.entry_list_init (code_list_new _ ⟨rfl, rfl⟩) fun obj s₁ h₁ => ?_
  obtain ⟨rfl, rfl⟩ := h₁
  have hS : (s.heap.push { cls := .type "list", data := .seq #[] }).get? s.heap.objs.size = some { cls := .type "list", data := .seq #[] } := Heap.get?_push_size _ rfl
  have hst0 := W.frame 0 s (s.heap.push { cls := .type "list", data := .seq #[] }) s.toks hst (Nat.le_refl _) fun b _ o e => Heap.get?_push_of_some _ e
  refine ⟨⟨_, hS, rfl⟩, F.args_list_init_2 _ _, ?_⟩
  show wpAny _ A.in1.in1 (Builtin.List.listItems (.ref s.heap.objs.size) >>= fun old => Builtin.List.listUpdate (.ref s.heap.objs.size) (fun _ => #[]) >>= fun _ => letGo old.toList.reverse >>= fun _ => Builtin.List.listExtendWith (.ref s.heap.objs.size) (.ref I) .none) _ _ _
  refine wpAny_bind ?_
  unfold Builtin.List.listItems
  refine wpAny_bind (wpAny_seqItems hS rfl (wpAny_pure (wpAny_bind (wpAny_updateSeq hS rfl ?_))))
  have hS₂ := Heap.get?_update_self (Obj.mapSeq (fun _ => (#[] : Array Value))) hS rfl
  have oth : ∀ b o, b ≠ s.heap.objs.size → (s.heap.push { cls := .type "list", data := .seq #[] }).get? b = some o → ((s.heap.push { cls := .type "list", data := .seq #[] }).update s.heap.objs.size (Obj.mapSeq (fun _ => (#[] : Array Value)))).get? b = some o := fun b o hb e => (Heap.get?_update_other _ _ (Ne.symm hb)).trans e
  refine wpAny_bind (wpAny_letGo ?_)
  refine extend_lri (A := A.in1) W hT _ .none _ (W.frame 0 _ _ s.toks hst0 (Nat.le_refl _) fun b hb o e => oth b o (fun h => hSf (h ▸ hb)) e) hSf hI hS₂ (fun s' acc' c' hm hS' hacc => ?_) hn
  exact ⟨rfl, hQ s' acc' c' (Moved.trans W.gtrans ((Moved.refl W.grefl).then_heap (Nat.le_refl _) fun b o hb e => oth b o (fun h => hb (h ▸ List.mem_cons_self)) e) hm) hS' hacc⟩
end
def tLstRev (K : PySem.W.Frag) (te : TE) : TE := fun σ H Q => te σ H fun v H1 => ∃ (a : Addr) (xs : List V), v = .ref a ∧ SqL K H1 a xs ∧ ∀ q, H1 q = none → Q (.ref q) (upd H1 q (.lst xs.reverse))
theorem pe_listRev {X : Cx} {e : Expr} {te : TE} {p p2 pos pos2 : Pos} (hc : X.calm = true) (hg : Gl X "list") (hm : X.mg "list" = none) (hg2 : Gl X "reversed") (hm2 : X.mg "reversed" = none) (he : PE X e te) (hs : starEach [e] X.env = (false, eval e X.env) :: starEach [] X.env := by rfl)
    (hs2 : starEach [.Call (.Name "reversed" p2) [e] [] pos2] X.env = (false, eval (.Call (.Name "reversed" p2) [e] [] pos2) X.env) :: starEach [] X.env := by rfl) : PE X (.Call (.Name "list" p) [.Call (.Name "reversed" p2) [e] [] pos2] [] pos) (tLstRev X.K te) := by
  refine ⟨fun pins s σ H Q I h => ?_⟩
  refine Call_ (ld_blt I hg hm boot_list (PyProof.Rows.callWith_type1 (args_cons (Call_ (ld_blt I hg2 hm2 PyProof.Rows.boot_reversed (PyProof.Rows.callWith_type1 (args_cons (thn (he.run pins s σ H _ I h) fun u s1 ⟨v, H1, I1, r1, q1⟩ => args_nil ?_) hs) hs rfl))) hs2) hs2 rfl))
  obtain ⟨a, xs, rfl, hq, q⟩ := q1
  obtain rfl : u = Value.ref a := r1
  obtain ⟨its, rv, p', hz⟩ := I1.list hq
  refine call_reversed_list p'.isList (args_nil ?_)
  have I2 : Inv X pins σ H1 { s1 with heap := s1.heap.push (revObj a ((its.toArray.size : Int) - 1)) } := I1.kept (t' := s1.toks) fun b o e => Heap.get?_push_of_some _ e
  obtain ⟨f0, f1, f2, f3, f4, f5⟩ := I1.fpOk (H' := H1) (b := s1.heap.objs.size) (Nat.le_refl _) (I1.hok.fresh (Nat.le_refl _))
  have hl := p'.isList
  obtain ⟨ol, hol, _⟩ := id hl
  have hne : a ≠ s1.heap.objs.size := Nat.ne_of_lt (Heap.lt_size hol)
  have hn : its.toArray.size ≤ sizeLine := by rw [List.size_toArray, ← rv.length]; exact hz
  have la : a < s1.heap.objs.size := Heap.lt_size hol
  refine call_list_lri (Walks.listRev (prog := X.prog) (w := X.w) (A := X.A.in1.in1) (I1.ok.hd hc) s1.heap.objs.size a hne its.toArray).toS (fun i s st => by obtain ⟨o, ho, hc', _⟩ := st.2.1; exact ⟨o, ho, hc'⟩) ⟨Nat.zero_le _, by rw [show ((its.toArray.size : Int) - 1 - ((0 : Nat) : Int)) = (its.toArray.size : Int) - 1 by omega]; exact ⟨_, Heap.get?_push_size _ rfl, rfl, rfl⟩, hl.push _⟩
    (fun b hb => ?_) List.mem_cons_self (fun s' acc' c' hm hS' hacc => ?_) hn
  · rcases List.mem_cons.mp hb with e | e
    · rw [e]; simp
    · rw [List.mem_singleton.mp e]
      show a < (s1.heap.push _).objs.size
      exact Nat.lt_of_lt_of_le la (by simp)
  · -- the new list
    obtain ⟨h', gg, dd, tt, oo⟩ := s'
    obtain ⟨m1, m2, m3, m4, m5⟩ := hm
    have e2 : gg = s1.gens := m2
    have e3 : dd = s1.drawn := m3
    have e4 : oo = s1.os := m4
    subst e2 e3 e4
    have szp : (s1.heap.push (revObj a ((its.toArray.size : Int) - 1))).objs.size = s1.heap.objs.size + 1 := by simp
    have keep : ∀ b o, b ∉ [s1.heap.objs.size] → (s1.heap.push (revObj a ((its.toArray.size : Int) - 1))).get? b = some o → h'.get? b = some o := fun b o hb e => m1 b o (fun z => by
      rcases List.mem_cons.mp z with z | z
      · exact Nat.ne_of_lt (Heap.lt_size e) z
      · exact hb z) (Heap.get?_push_of_some _ e)
    have ok : ObjOk X.prog X.w (upd H1 (s1.heap.push (revObj a ((its.toArray.size : Int) - 1))).objs.size (.lst xs.reverse)) h' (s1.heap.push (revObj a ((its.toArray.size : Int) - 1))).objs.size (.lst xs.reverse) := ⟨by rw [List.length_reverse]; exact hz, acc'.toList, c', RT.vals_rev rv hacc, by rw [Array.toArray_toList]; exact hS'⟩
    have I3 := I2.turnedNew (t' := tt) (ch := [s1.heap.objs.size]) keep (fun b hb => by rw [List.mem_singleton.mp hb]; exact I1.fpOk (Nat.le_refl _) (I1.hok.fresh (Nat.le_refl _))) (Nat.le_refl _) ok
    exact ⟨.ref _, _, I3, rfl, q _ (I2.hok.fresh (Nat.le_refl _))⟩
end TW
set_option Elab.async false
set_option linter.all false
set_option maxRecDepth 100000
set_option maxHeartbeats 1000000
/-! values as trees: what a def does, told without the heap -/
namespace TD
open PySem PySem.Spec PyProof.Rows L2 TW
inductive Dt where
  | non | bl (b : Bool) | int (i : Int) | str (x : Str) | tup (ds : List Dt) | lst (ds : List Dt) | ins (C : Addr) (fs : List (Str × Dt)) | raw (v : V) | prm (p : Hp → V → Prop)
inductive Is (H : Hp) : V → Dt → Prop
  | non : Is H .non .non
  | bl (b : Bool) : Is H (.bl b) (.bl b)
  | int (i : Int) : Is H (.int i) (.int i)
  | str (x : Str) : Is H (.str x) (.str x)
  | lst {a : Addr} {xs : List V} {ds : List Dt} (h : H a = some (.lst xs)) (l : xs.length = ds.length) (p : ∀ (i : Nat) x d, xs[i]? = some x → ds[i]? = some d → Is H x d) : Is H (.ref a) (.lst ds)
  | tup {a : Addr} {xs : List V} {ds : List Dt} (h : H a = some (.tup xs)) (l : xs.length = ds.length) (p : ∀ (i : Nat) x d, xs[i]? = some x → ds[i]? = some d → Is H x d) : Is H (.ref a) (.tup ds)
  | ins {a C dx : Addr} {fl : List (Str × V)} {fs : List (Str × Dt)} (h : H a = some (.ins C dx fl)) (l : fl.map (·.1) = fs.map (·.1)) (p : ∀ (i : Nat) x d, fl[i]? = some x → fs[i]? = some d → Is H x.2 d.2) : Is H (.ref a) (.ins C fs)
  | raw (v : V) : Is H v (.raw v)
  | prm {v : V} (p : Hp → V → Prop) (h : ∀ H', Ex H H' → p H' v) : Is H v (.prm p)
def Iss (H : Hp) (xs : List V) (ds : List Dt) : Prop := xs.length = ds.length ∧ ∀ (i : Nat) x d, xs[i]? = some x → ds[i]? = some d → Is H x d
section
variable {H H' : Hp} {x : V} {d : Dt} {xs : List V} {ds : List Dt} {a : Addr}
theorem Is.ex (h : Is H x d) (e : Ex H H') : Is H' x d := by
  induction h with
  | non => exact .non
  | bl b => exact .bl b
  | int i => exact .int i
  | str x => exact .str x
  | lst h l p ih => exact .lst (e _ _ h) l ih
  | tup h l p ih => exact .tup (e _ _ h) l ih
  | ins h l p ih => exact .ins (e _ _ h) l ih
  | raw v => exact .raw v
  | prm p h => exact .prm p fun H2 e2 => h H2 (e.trans e2)
theorem Iss.ex (h : Iss H xs ds) (e : Ex H H') : Iss H' xs ds := ⟨h.1, fun i x d h1 h2 => (h.2 i x d h1 h2).ex e⟩
theorem Iss.nil : Iss H [] [] := ⟨rfl, fun i x d h _ => by cases h⟩
theorem Iss.cons (h : Is H x d) (t : Iss H xs ds) : Iss H (x :: xs) (d :: ds) := ⟨by rw [List.length_cons, List.length_cons, t.1], fun i y e h1 h2 => by
  cases i with
  | zero =>
    cases h1
    cases h2
    exact h
  | succ i => exact t.2 i y e h1 h2⟩
theorem Iss.head (h : Iss H (x :: xs) (d :: ds)) : Is H x d := h.2 0 x d rfl rfl
theorem Iss.rest (h : Iss H (x :: xs) (d :: ds)) : Iss H xs ds := ⟨by have := h.1; rw [List.length_cons, List.length_cons] at this; omega, fun i y e h1 h2 => h.2 (i + 1) y e h1 h2⟩
theorem Iss.append {ys : List V} {es : List Dt} (h : Iss H xs ds) (t : Iss H ys es) : Iss H (xs ++ ys) (ds ++ es) := ⟨by rw [List.length_append, List.length_append, h.1, t.1], fun i y e h1 h2 => by
  rw [List.getElem?_append] at h1 h2
  rw [h.1] at h1
  split at h1
  · rename_i c
    rw [if_pos c] at h2
    exact h.2 i y e h1 h2
  · rename_i c
    rw [if_neg c] at h2
    exact t.2 _ y e h1 h2⟩
theorem Iss.snoc (h : Iss H xs ds) (t : Is H x d) : Iss H (xs ++ [x]) (ds ++ [d]) := h.append (.cons t .nil)
theorem Iss.get (h : Iss H xs ds) {i : Nat} (hi : ds[i]? = some d) : ∃ x, xs[i]? = some x ∧ Is H x d := by
  have lt := (List.getElem?_eq_some_iff.mp hi).1
  have e : xs[i]? = some (xs[i]'(by rw [h.1]; exact lt)) := List.getElem?_eq_getElem _
  exact ⟨_, e, h.2 i _ d e hi⟩
theorem Iss.sub {xs' : List V} {ds' : List Dt} (f : Nat → Nat) (l : xs'.length = ds'.length) (hx : ∀ i x, xs'[i]? = some x → xs[f i]? = some x) (hd : ∀ i d, ds'[i]? = some d → ds[f i]? = some d) (h : Iss H xs ds) : Iss H xs' ds' := ⟨l, fun i x d h1 h2 => h.2 (f i) x d (hx i x h1) (hd i d h2)⟩
theorem Iss.take (h : Iss H xs ds) (n : Nat) : Iss H (xs.take n) (ds.take n) := h.sub id (by rw [List.length_take, List.length_take, h.1]) (fun i x e => by rw [List.getElem?_take] at e; split at e; exact e; cases e) (fun i x e => by rw [List.getElem?_take] at e; split at e; exact e; cases e)
theorem Iss.drop (h : Iss H xs ds) (n : Nat) : Iss H (xs.drop n) (ds.drop n) := h.sub (n + ·) (by rw [List.length_drop, List.length_drop, h.1]) (fun i x e => by rw [List.getElem?_drop] at e; exact e) (fun i x e => by rw [List.getElem?_drop] at e; exact e)
theorem Iss.set (h : Iss H xs ds) (i : Nat) (t : Is H x d) : Iss H (xs.set i x) (ds.set i d) := ⟨by rw [List.length_set, List.length_set, h.1], fun j y e h1 h2 => by
  rw [List.getElem?_set] at h1 h2
  rw [h.1] at h1
  split at h1
  · rename_i c
    rw [if_pos c] at h2
    split at h1
    · rename_i c2
      rw [if_pos c2] at h2
      cases h1
      cases h2
      exact t
    · cases h1
  · rename_i c
    rw [if_neg c] at h2
    exact h.2 j y e h1 h2⟩
theorem Is.inL (h : Is H x (.lst ds)) : ∃ a xs, x = .ref a ∧ H a = some (.lst xs) ∧ Iss H xs ds := by
  cases h with
  | lst h l p => exact ⟨_, _, rfl, h, l, p⟩
theorem Is.inT (h : Is H x (.tup ds)) : ∃ a xs, x = .ref a ∧ H a = some (.tup xs) ∧ Iss H xs ds := by
  cases h with
  | tup h l p => exact ⟨_, _, rfl, h, l, p⟩
theorem Iss.mkL (h : Iss H xs ds) (e : H a = some (.lst xs)) : Is H (.ref a) (.lst ds) := .lst e h.1 h.2
theorem Iss.mkT (h : Iss H xs ds) (e : H a = some (.tup xs)) : Is H (.ref a) (.tup ds) := .tup e h.1 h.2
/-- ints alone -/
def intOf : Dt → Int
  | .int i => i
  | _ => 0
theorem Iss.ints {ns : List Int} (h : Iss H xs (ns.map Dt.int)) : xs = ns.map V.int := by
  refine List.ext_getElem? fun i => ?_
  cases e : ns[i]? with
  | none =>
    have l : ns.length ≤ i := List.getElem?_eq_none_iff.mp e
    rw [List.getElem?_eq_none (by rw [h.1, List.length_map]; exact l), List.getElem?_eq_none (by rw [List.length_map]; exact l)]
  | some n =>
    have e2 : (ns.map Dt.int)[i]? = some (.int n) := by rw [List.getElem?_map, e]; rfl
    obtain ⟨x, hx, hi⟩ := h.get e2
    cases hi
    rw [hx, List.getElem?_map, e]
    rfl
theorem Iss.bls {ns : List Bool} (h : Iss H xs (ns.map Dt.bl)) : xs = ns.map V.bl := by
  refine List.ext_getElem? fun i => ?_
  cases e : ns[i]? with
  | none =>
    have l : ns.length ≤ i := List.getElem?_eq_none_iff.mp e
    rw [List.getElem?_eq_none (by rw [h.1, List.length_map]; exact l), List.getElem?_eq_none (by rw [List.length_map]; exact l)]
  | some n =>
    have e2 : (ns.map Dt.bl)[i]? = some (.bl n) := by rw [List.getElem?_map, e]; rfl
    obtain ⟨x, hx, hi⟩ := h.get e2
    cases hi
    rw [hx, List.getElem?_map, e]
    rfl
theorem iss_ints (H : Hp) : ∀ ns : List Int, Iss H (ns.map V.int) (ns.map Dt.int)
  | [] => .nil
  | n :: ns => .cons (.int n) (iss_ints H ns)
end
/-! cells: what may change -/
inductive Cl where
  | own (ds : List Dt) | frz (ds : List Dt) | any (o : HO)
inductive Rf where
  | d (t : Dt) | c (k : Nat)
structure Ds where
  sl : List (Option Rf)
  ce : List Cl
def ClOk (G H : Hp) (p : Addr) : Cl → Prop
  | .own ds => G p = none ∧ ∃ xs, H p = some (.lst xs) ∧ Iss G xs ds
  | .frz ds => ∃ xs, G p = some (.lst xs) ∧ Iss G xs ds
  | .any o => (G p = none ∨ ∃ ts, o = .tup ts) ∧ H p = some o
def RfOk (G : Hp) (ps : List Addr) (v : V) : Rf → Prop
  | .d t => Is G v t
  | .c k => ∃ p, v = .ref p ∧ ps[k]? = some p
/-- G the ground (it only grows), fr the frame (it stays), ps and ce the cells -/
structure Rl (G : Hp) (fr : List (Addr × HO)) (ps : List Addr) (ce : List Cl) (H : Hp) : Prop where
  ex : Ex G H
  ln : ps.length = ce.length
  nd : ps.Nodup
  ce : ∀ (k : Nat) p c, ps[k]? = some p → ce[k]? = some c → ClOk G H p c
  fo : ∀ q ∈ fr, (G q.1 = none ∨ ∃ ts, q.2 = .tup ts) ∧ H q.1 = some q.2
  nf : (fr.map (·.1)).Nodup
  sp : ∀ q ∈ fr, q.1 ∉ ps
def SlOk (G : Hp) (ps : List Addr) (sl : List (Option Rf)) (σ : L2.St) : Prop := sl.length = σ.length ∧ ∀ (i : Nat) r, sl[i]? = some (some r) → ∃ v, σ[i]? = some (some v) ∧ RfOk G ps v r
/-- later: the ground has grown, further cells stand -/
structure Up (G : Hp) (ps : List Addr) (G' : Hp) (ps' : List Addr) : Prop where
  ex : Ex G G'
  pre : ps <+: ps'
section
variable {G G' G2 H H' : Hp} {fr : List (Addr × HO)} {ps ps' ps2 : List Addr} {ce ce' : List Cl} {v : V} {r : Rf} {σ : L2.St} {sl : List (Option Rf)} {p : Addr} {c : Cl} {k : Nat}
theorem Up.rfl' : Up G ps G ps := ⟨Ex.rfl', List.prefix_rfl⟩
theorem Up.trans (a : Up G ps G' ps') (b : Up G' ps' G2 ps2) : Up G ps G2 ps2 := ⟨a.ex.trans b.ex, a.pre.trans b.pre⟩
theorem Up.at (u : Up G ps G' ps') (h : ps[k]? = some p) : ps'[k]? = some p := by
  obtain ⟨t, rfl⟩ := u.pre
  rw [List.getElem?_append_left (List.getElem?_eq_some_iff.mp h).1]
  exact h
theorem RfOk.up (h : RfOk G ps v r) (u : Up G ps G' ps') : RfOk G' ps' v r := by
  cases r with
  | d t => exact Is.ex h u.ex
  | c k =>
    obtain ⟨p, e, h⟩ := h
    exact ⟨p, e, u.at h⟩
theorem SlOk.up (h : SlOk G ps sl σ) (u : Up G ps G' ps') : SlOk G' ps' sl σ := ⟨h.1, fun i r e => by
  obtain ⟨v, e2, h2⟩ := h.2 i r e
  exact ⟨v, e2, h2.up u⟩⟩
theorem SlOk.set (h : SlOk G ps sl σ) (i : Nat) (t : RfOk G ps v r) : SlOk G ps (sl.set i (some r)) (σ.set i (some v)) := ⟨by rw [List.length_set, List.length_set, h.1], fun j r' e => by
  rw [List.getElem?_set] at e ⊢
  rw [h.1] at e
  split at e
  · rename_i c
    rw [if_pos c]
    split at e
    · rename_i c2
      rw [if_pos c2]
      cases e
      exact ⟨v, rfl, t⟩
    · cases e
  · rename_i c
    rw [if_neg c]
    exact h.2 j r' e⟩
theorem SlOk.wipe (h : SlOk G ps sl σ) : ∀ vs : List Nat, SlOk G ps (vs.foldr (fun v l => l.set v none) sl) (wipe σ vs)
  | [] => h
  | v :: vs => by
    have ih := SlOk.wipe h vs
    refine ⟨by show (List.set _ _ _).length = (List.set _ _ _).length; rw [List.length_set, List.length_set]; exact ih.1, fun j r' e => ?_⟩
    have e : (List.set (vs.foldr (fun v l => l.set v none) sl) v none)[j]? = some (some r') := e
    show ∃ w, (List.set (L2.wipe σ vs) v none)[j]? = some (some w) ∧ _
    rw [List.getElem?_set] at e ⊢
    split at e
    · split at e <;> cases e
    · rename_i c
      rw [if_neg c]
      exact ih.2 j r' e
theorem ClOk.grow (e : Ex G G') (h : ClOk G H p c) (n : G p = none → G' p = none) : ClOk G' H p c := by
  cases c with
  | own ds =>
    obtain ⟨h1, xs, h2, h3⟩ := h
    exact ⟨n h1, xs, h2, h3.ex e⟩
  | frz ds =>
    obtain ⟨xs, h2, h3⟩ := h
    exact ⟨xs, e _ _ h2, h3.ex e⟩
  | any o => exact ⟨h.1.imp n id, h.2⟩
/-- a new thing goes into the ground -/
theorem Rl.ground (R : Rl G fr ps ce H) {q : Addr} {o : HO} (nq : H q = none) : Ex G (upd G q o) ∧ Rl (upd G q o) fr ps ce (upd H q o) ∧ (upd G q o) q = some o := by
  have nG : G q = none := Evl.fresh_back R.ex nq
  have eG : Ex G (upd G q o) := Evl.Ex.new nG
  refine ⟨eG, ⟨fun a u h => ?_, R.ln, R.nd, fun k p c h1 h2 => ?_, fun f hf => ?_, R.nf, R.sp⟩, upd_same⟩
  rotate_left 2
  · obtain ⟨f1, f2⟩ := R.fo f hf
    have ne : f.1 ≠ q := fun e => by rw [e, nq] at f2; cases f2
    exact ⟨by rw [upd_ne ne]; exact f1, by rw [upd_ne ne]; exact f2⟩
  · by_cases e : a = q
    · subst e
      rw [upd_same] at h ⊢
      exact h
    · rw [upd_ne e] at h ⊢
      exact R.ex a u h
  · have h := R.ce k p c h1 h2
    have pq : p ≠ q := fun e => by
      subst e
      cases c with
      | own ds =>
        obtain ⟨_, xs, z, _⟩ := h
        rw [nq] at z
        cases z
      | frz ds =>
        obtain ⟨xs, z, _⟩ := h
        rw [nG] at z
        cases z
      | any o =>
        have z := h.2
        rw [nq] at z
        cases z
    have h' : ClOk (upd G q o) H p c := h.grow eG fun n => by rw [upd_ne pq]; exact n
    cases c with
    | own ds =>
      obtain ⟨a, xs, b, c⟩ := h'
      exact ⟨a, xs, by rw [upd_ne pq]; exact b, c⟩
    | frz ds => exact h'
    | any o => exact ⟨h'.1, by rw [upd_ne pq]; exact h'.2⟩
/-- the heap grows by things that nobody asks for -/
theorem Rl.go (R : Rl G fr ps ce H) (e : Ex H H') : Rl G fr ps ce H' := ⟨R.ex.trans e, R.ln, R.nd, fun k p c h1 h2 => by
  have h := R.ce k p c h1 h2
  cases c with
  | own ds =>
    obtain ⟨a, xs, b, c⟩ := h
    exact ⟨a, xs, e _ _ b, c⟩
  | frz ds => exact h
  | any o => exact ⟨h.1, e _ _ h.2⟩, fun q hq => ⟨(R.fo q hq).1, e _ _ (R.fo q hq).2⟩, R.nf, R.sp⟩
theorem Rl.fresh (R : Rl G fr ps ce H) {q : Addr} (nq : H q = none) : G q = none ∧ q ∉ ps := ⟨Evl.fresh_back R.ex nq, fun hm => by
  obtain ⟨k, hk⟩ := List.mem_iff_getElem?.mp hm
  have lk := (List.getElem?_eq_some_iff.mp hk).1
  have hc : ce[k]? = some (ce[k]'(by rw [← R.ln]; exact lk)) := List.getElem?_eq_getElem _
  have h := R.ce k q _ hk hc
  generalize ce[k]'(by rw [← R.ln]; exact lk) = c at h
  cases c with
  | own ds =>
    obtain ⟨_, xs, z, _⟩ := h
    rw [nq] at z
    cases z
  | frz ds =>
    obtain ⟨xs, z, _⟩ := h
    rw [Evl.fresh_back R.ex nq] at z
    cases z
  | any o =>
    have z := h.2
    rw [nq] at z
    cases z⟩
theorem get_snoc {α : Type} {l : List α} {x y : α} {k : Nat} (h : (l ++ [x])[k]? = some y) : l[k]? = some y ∨ (k = l.length ∧ y = x) := by
  rw [List.getElem?_append] at h
  split at h
  · exact .inl h
  · rename_i n
    have : k - l.length = 0 := by
      have := (List.getElem?_eq_some_iff.mp h).1
      rw [List.length_singleton] at this
      omega
    rw [this] at h
    cases h
    exact .inr ⟨by omega, rfl⟩
theorem get_last {α : Type} (l : List α) (x : α) : (l ++ [x])[l.length]? = some x := by
  rw [List.getElem?_append_right (Nat.le_refl _), Nat.sub_self]
  rfl
/-- a new list as a cell of its own -/
theorem Rl.cell (R : Rl G fr ps ce H) {q : Addr} {xs : List V} {ds : List Dt} (nq : H q = none) (hx : Iss G xs ds) : Up G ps G (ps ++ [q]) ∧ Rl G fr (ps ++ [q]) (ce ++ [.own ds]) (upd H q (.lst xs)) ∧ (ps ++ [q])[ce.length]? = some q := by
  obtain ⟨nG, np⟩ := R.fresh nq
  refine ⟨⟨Ex.rfl', List.prefix_append _ _⟩, ⟨R.ex.trans (Evl.Ex.new nq), by rw [List.length_append, List.length_append, R.ln]; rfl, ?_, fun k p c h1 h2 => ?_, fun f hf => ?_, R.nf, fun f hf hm => ?_⟩, by rw [← R.ln]; exact get_last _ _⟩
  rotate_left 2
  · obtain ⟨f1, f2⟩ := R.fo f hf
    exact ⟨f1, by rw [upd_ne (fun e => by rw [e, nq] at f2; cases f2)]; exact f2⟩
  · rcases List.mem_append.mp hm with h | h
    · exact R.sp f hf h
    · rw [List.mem_singleton] at h
      have f2 := (R.fo f hf).2
      rw [h, nq] at f2
      cases f2
  · exact List.nodup_append.mpr ⟨R.nd, List.nodup_cons.mpr ⟨List.not_mem_nil, List.nodup_nil⟩, fun a ha b hb e => by
      rw [List.mem_singleton] at hb
      subst hb
      subst e
      exact np ha⟩
  · rcases get_snoc h1 with h1 | ⟨k1, rfl⟩
    · rcases get_snoc h2 with h2 | ⟨k2, rfl⟩
      · have h := R.ce k p c h1 h2
        have pq : p ≠ q := fun e => np (e ▸ List.mem_of_getElem? h1)
        cases c with
        | own ds =>
          obtain ⟨a, xs, b, c⟩ := h
          exact ⟨a, xs, by rw [upd_ne pq]; exact b, c⟩
        | frz ds => exact h
        | any o => exact ⟨h.1, by rw [upd_ne pq]; exact h.2⟩
      · have := (List.getElem?_eq_some_iff.mp h1).1
        rw [R.ln] at this
        omega
    · rcases get_snoc h2 with h2 | ⟨k2, rfl⟩
      · have := (List.getElem?_eq_some_iff.mp h2).1
        rw [← R.ln] at this
        omega
      · exact ⟨nG, xs, upd_same, hx⟩
/-- a cell is changed -/
theorem Rl.put (R : Rl G fr ps ce H) {xs : List V} {ds ds' : List Dt} (hk : ps[k]? = some p) (hc : ce[k]? = some (.own ds)) (hx : Iss G xs ds') : Rl G fr ps (ce.set k (.own ds')) (upd H p (.lst xs)) := by
  have nG : G p = none := (R.ce k p _ hk hc).1
  refine ⟨fun a u h => by rw [upd_ne (ne_of_none h nG)]; exact R.ex a u h, by rw [List.length_set, R.ln], R.nd, fun j q c h1 h2 => ?_, fun f hf => ⟨(R.fo f hf).1, by rw [upd_ne (show f.1 ≠ p from fun e => R.sp f hf (by rw [e]; exact List.mem_of_getElem? hk))]; exact (R.fo f hf).2⟩, R.nf, R.sp⟩
  rw [List.getElem?_set] at h2
  split at h2
  · rename_i e
    subst e
    split at h2
    · cases h2
      rw [hk] at h1
      cases h1
      exact ⟨nG, xs, upd_same, hx⟩
    · cases h2
  · rename_i e
    have h := R.ce j q c h1 h2
    have qp : q ≠ p := fun z => e (by subst z; exact nodup_at R.nd hk h1)
    cases c with
    | own ds =>
      obtain ⟨a, xs, b, c⟩ := h
      exact ⟨a, xs, by rw [upd_ne qp]; exact b, c⟩
    | frz ds => exact h
    | any o => exact ⟨h.1, by rw [upd_ne qp]; exact h.2⟩
/-- a cell is frozen: it goes into the ground -/
theorem Rl.freeze (R : Rl G fr ps ce H) {ds : List Dt} (hk : ps[k]? = some p) (hc : ce[k]? = some (.own ds)) : ∃ G', Ex G G' ∧ Rl G' fr ps (ce.set k (.frz ds)) H ∧ Is G' (.ref p) (.lst ds) := by
  obtain ⟨nG, xs, hp, hx⟩ := R.ce k p _ hk hc
  have eG : Ex G (upd G p (.lst xs)) := Evl.Ex.new nG
  refine ⟨upd G p (.lst xs), eG, ⟨fun a u h => ?_, by rw [List.length_set, R.ln], R.nd, fun j q c h1 h2 => ?_, fun f hf => ⟨by rw [upd_ne (show f.1 ≠ p from fun e => R.sp f hf (by rw [e]; exact List.mem_of_getElem? hk))]; exact (R.fo f hf).1, (R.fo f hf).2⟩, R.nf, R.sp⟩, (hx.ex eG).mkL upd_same⟩
  · by_cases e : a = p
    · subst e
      rw [upd_same] at h
      rw [hp]
      exact h
    · rw [upd_ne e] at h
      exact R.ex a u h
  · rw [List.getElem?_set] at h2
    split at h2
    · rename_i e
      subst e
      split at h2
      · cases h2
        rw [hk] at h1
        cases h1
        exact ⟨xs, upd_same, hx.ex eG⟩
      · cases h2
    · rename_i e
      have h := R.ce j q c h1 h2
      have qp : q ≠ p := fun z => e (by subst z; exact nodup_at R.nd hk h1)
      exact h.grow eG fun n => by rw [upd_ne qp]; exact n
end
end TD
set_option Elab.async false
set_option linter.all false
set_option maxRecDepth 100000
set_option maxHeartbeats 1000000
/-! expressions -/
namespace TD
open PySem PySem.Spec PyProof.Rows L2 TW
inductive RfsOk (G : Hp) (ps : List Addr) : List V → List Rf → Prop
  | nil : RfsOk G ps [] []
  | cons {v r vs rs} (h : RfOk G ps v r) (t : RfsOk G ps vs rs) : RfsOk G ps (v :: vs) (r :: rs)
theorem RfsOk.up {G G' : Hp} {ps ps' : List Addr} {vs : List V} {rs : List Rf} (h : RfsOk G ps vs rs) (u : Up G ps G' ps') : RfsOk G' ps' vs rs := by
  induction h with
  | nil => exact .nil
  | cons h _ ih => exact .cons (h.up u) ih
theorem RfsOk.len {G : Hp} {ps : List Addr} {vs : List V} {rs : List Rf} (h : RfsOk G ps vs rs) : vs.length = rs.length := by
  induction h with
  | nil => rfl
  | cons h _ ih => rw [List.length_cons, List.length_cons, ih]
def FinW {α β : Type} (ok : Hp → List Addr → β → α → Prop) (G : Hp) (fr : List (Addr × HO)) (ps : List Addr) (Qd : α → List Cl → Prop) (Q : β → Hp → Prop) : Prop :=
  ∀ r ce G' ps' H v, Qd r ce → Up G ps G' ps' → Rl G' fr ps' ce H → ok G' ps' v r → Q v H
abbrev Fin' := FinW RfOk
abbrev FinA := FinW RfsOk
abbrev FinT := FinW (fun _ _ (b : Bool) (c : Bool) => b = c)
theorem FinW.up {α β : Type} {ok : Hp → List Addr → β → α → Prop} {G G' : Hp} {fr : List (Addr × HO)} {ps ps' : List Addr} {Qd : α → List Cl → Prop} {Q : β → Hp → Prop} (f : FinW ok G fr ps Qd Q) (u : Up G ps G' ps') : FinW ok G' fr ps' Qd Q :=
  fun r ce G2 ps2 H v q u2 R k => f r ce G2 ps2 H v q (u.trans u2) R k
abbrev XQ := Rf → List Cl → Prop
abbrev XE := Ds → XQ → Prop
abbrev XT := Ds → (Bool → List Cl → Prop) → Prop
abbrev XA := Ds → (List Rf → List Cl → Prop) → Prop
def SE (t : TE) (e : XE) : Prop := ∀ G fr ps (s : Ds) σ H Q Qd, Rl G fr ps s.ce H → SlOk G ps s.sl σ → e s Qd → Fin' G fr ps Qd Q → t σ H Q
def ST (t : TT) (e : XT) : Prop := ∀ G fr ps (s : Ds) σ H Q Qd, Rl G fr ps s.ce H → SlOk G ps s.sl σ → e s Qd → FinT G fr ps Qd Q → t σ H Q
def SA (t : TA) (e : XA) : Prop := ∀ G fr ps (s : Ds) σ H Q Qd, Rl G fr ps s.ce H → SlOk G ps s.sl σ → e s Qd → FinA G fr ps Qd Q → t σ H Q
/-- F: a family of contexts (those of a comprehension's block) -/
def DE {ι : Type} (F : ι → Cx) (e : Expr) (d : XE) : Prop := ∃ t, (∀ i, PE (F i) e t) ∧ SE t d
def DT {ι : Type} (F : ι → Cx) (e : Expr) (d : XT) : Prop := ∃ t, (∀ i, PT (F i) e t) ∧ ST t d
def DW {ι : Type} (F : ι → Cx) (e : Expr) (d : XT) : Prop := ∃ t, (∀ i, PW (F i) e t) ∧ ST t d
def DA {ι : Type} (F : ι → Cx) (es : List Expr) (d : XA) : Prop := ∃ t, (∀ i, PA (F i) es t) ∧ SA t d
/-! readings -/
def varD (i : Nat) : XE := fun s Q => match s.sl[i]? with
  | some (some r) => Q r s.ce
  | _ => False
def conD (t : Dt) : XE := fun s Q => Q (.d t) s.ce
def nilD : XA := fun s Q => Q [] s.ce
def consD (a : XE) (r : XA) : XA := fun s Q => a s fun x ce => r ⟨s.sl, ce⟩ fun xs ce2 => Q (x :: xs) ce2
abbrev XO := Rf → Rf → List Cl → XQ → Prop
abbrev XC := List Rf → List Cl → XQ → Prop
def opD (r : XO) (a b : XE) : XE := fun s Q => a s fun x ce => b ⟨s.sl, ce⟩ fun y ce2 => r x y ce2 Q
def unD (r : Rf → List Cl → XQ → Prop) (a : XE) : XE := fun s Q => a s fun x ce => r x ce Q
def calD (r : XC) (a : XA) : XE := fun s Q => a s fun xs ce => r xs ce Q
def SO (r : R2) (d : XO) : Prop := ∀ G fr ps ce H x y a b Q Qd, Rl G fr ps ce H → RfOk G ps x a → RfOk G ps y b → d a b ce Qd → Fin' G fr ps Qd Q → r x y H Q
def SU (r : V → Hp → VK → Prop) (d : Rf → List Cl → XQ → Prop) : Prop := ∀ G fr ps ce H x a Q Qd, Rl G fr ps ce H → RfOk G ps x a → d a ce Qd → Fin' G fr ps Qd Q → r x H Q
def SC (r : List V → Hp → VK → Prop) (d : XC) : Prop := ∀ G fr ps ce H xs as Q Qd, Rl G fr ps ce H → RfsOk G ps xs as → d as ce Qd → Fin' G fr ps Qd Q → r xs H Q
def DO {ι : Type} (F : ι → Cx) (f : Value → Value → Sem Value) (d : XO) : Prop := ∃ r, (∀ i, OpR (F i) f r) ∧ SO r d
def DC {ι : Type} (F : ι → Cx) (f : Value) (d : XC) : Prop := ∃ r, (∀ i, CallR (F i) f r) ∧ SC r d
section
variable {ι : Type} {F : ι → Cx} {a b c : Expr} {es : List Expr} {pos : Pos} {da db dc : XE} {dA dB dC : XT} {dl : XA} {ta tb : TE} {tA tB' : TT}
theorem se_var (i : Nat) : SE (tVar i) (varD i) := fun G fr ps s σ H Q Qd R L h f => by
  unfold varD at h
  split at h
  · rename_i r e
    obtain ⟨v, hv, hr⟩ := L.2 i r e
    exact ⟨v, hv, f r s.ce G ps H v h .rfl' R hr⟩
  · exact h.elim
theorem de_var (i : Nat) {x : Str} (hN : ∀ j, (F j).N[i]? = some x := by intro _; rfl) (hv : ∀ j, Vis (F j).env.scope x := by first | exact fun _ => Or.inl rfl | exact fun _ => Or.inr (Or.inl rfl) | exact fun _ => Or.inr (Or.inr rfl)) (hd : (x == ("__debug__" : Str)) = false := by decide)
    (hcd : (x == ("__classdict__" : Str)) = false := by decide) : DE F (.Name x pos) (varD i) := ⟨_, fun j => pe_var (hN j) (hv j) hd hcd, se_var i⟩
theorem se_con {v : V} {t : Dt} (h : ∀ G, Is G v t) : SE (tC v) (conD t) := fun G fr ps s σ H Q Qd R L q f => f _ _ G ps H v q .rfl' R (h G)
theorem de_int {i : Int} {j} : DE F (.Constant (.int i) j pos) (conD (.int i)) := ⟨_, fun _ => pe_int, se_con fun _ => .int i⟩
theorem de_bl {i : Bool} {j} : DE F (.Constant (.bool i) j pos) (conD (.bl i)) := ⟨_, fun _ => pe_bl, se_con fun _ => .bl i⟩
theorem de_non {j} : DE F (.Constant .none j pos) (conD .non) := ⟨_, fun _ => pe_non, se_con fun _ => .non⟩
theorem de_str {x : Str} {j} : DE F (.Constant (.str x) j pos) (conD (.str x)) := ⟨_, fun _ => pe_str, se_con fun _ => .str x⟩
theorem da_nil : DA F [] nilD := ⟨_, fun _ => pa_nil, fun G fr ps s σ H Q Qd R L q f => f _ _ G ps H _ q .rfl' R .nil⟩
theorem da_cons (ha : DE F a da) (hr : DA F es dl) (hs : ∀ j, starEach (a :: es) (F j).env = (false, eval a (F j).env) :: starEach es (F j).env := by intro _; rfl) : DA F (a :: es) (consD da dl) := by
  obtain ⟨t, p, sa⟩ := ha
  obtain ⟨u, q, sr⟩ := hr
  refine ⟨_, fun j => pa_cons (p j) (q j) (hs j), fun G fr ps s σ H Q Qd R L h f => ?_⟩
  refine sa G fr ps s σ H _ _ R L h fun x ce1 G1 ps1 H1 v q1 u1 R1 v1 => ?_
  refine sr G1 fr ps1 ⟨s.sl, ce1⟩ σ H1 _ _ R1 (L.up u1) q1 fun xs ce2 G2 ps2 H2 vs q2 u2 R2 vs2 => ?_
  exact f _ _ G2 ps2 H2 _ q2 (u1.trans u2) R2 (.cons (v1.up u2) vs2)
theorem SE.op {r : R2} {d : XO} (so : SO r d) (sa : SE ta da) (sb : SE tb db) : SE (tOp r ta tb) (opD d da db) := fun G fr ps s σ H Q Qd R L h f => by
  refine sa G fr ps s σ H _ _ R L h fun x ce1 G1 ps1 H1 v q1 u1 R1 v1 => ?_
  refine sb G1 fr ps1 ⟨s.sl, ce1⟩ σ H1 _ _ R1 (L.up u1) q1 fun y ce2 G2 ps2 H2 w q2 u2 R2 w2 => ?_
  exact so G2 fr ps2 ce2 H2 v w x y _ _ R2 (v1.up u2) w2 q2 (f.up (u1.trans u2))
theorem de_op {op : Operator} {d : XO} (ho : DO F (binaryOp op) d) (ha : DE F a da) (hb : DE F b db) : DE F (.BinOp a op b pos) (opD d da db) := by
  obtain ⟨r, o, so⟩ := ho
  obtain ⟨t, p, sa⟩ := ha
  obtain ⟨u, q, sb⟩ := hb
  exact ⟨_, fun j => pe_op (o j) (p j) (q j), .op so sa sb⟩
theorem de_cmp {op : CmpOp} {d : XO} (ho : DO F (compareOp op) d) (ha : DE F a da) (hb : DE F b db) (hm : behindInMarks op b = false) : DE F (.Compare a [op] [b] pos) (opD d da db) := by
  obtain ⟨r, o, so⟩ := ho
  obtain ⟨t, p, sa⟩ := ha
  obtain ⟨u, q, sb⟩ := hb
  exact ⟨_, fun j => pe_cmpR (o j) (p j) (q j) hm, .op so sa sb⟩
/-- a value as a test -/
def tstD (e : XE) : XT := fun s Q => e s fun r ce => match r with
  | .d (.bl b) => Q b ce
  | _ => False
theorem fin_bl {G : Hp} {fr : List (Addr × HO)} {ps : List Addr} {Qd : Bool → List Cl → Prop} {Q : Bool → Hp → Prop} (f : FinT G fr ps Qd Q) : Fin' G fr ps (fun r ce => match r with
    | .d (.bl b) => Qd b ce
    | _ => False) (fun x H => ∃ k, x = .bl k ∧ Q k H) := fun r ce G1 ps1 H1 v q u R k => by
  dsimp only at q
  split at q
  · cases k
    exact ⟨_, rfl, f _ _ G1 ps1 H1 _ q u R rfl⟩
  · exact q.elim
theorem dt_cmp {op : CmpOp} {d : XO} (ho : DO F (compareOp op) d) (ha : DE F a da) (hb : DE F b db) (hm : behindInMarks op b = false) : DT F (.Compare a [op] [b] pos) (tstD (opD d da db)) := by
  obtain ⟨r, o, so⟩ := ho
  obtain ⟨t, p, sa⟩ := ha
  obtain ⟨u, q, sb⟩ := hb
  exact ⟨_, fun j => pt_cmpR (o j) (p j) (q j) hm, fun G fr ps s σ H Q Qd R L h f => SE.op so sa sb G fr ps s σ H _ _ R L h (fin_bl f)⟩
theorem dt_val (h : DE F a da) (he : ∀ j whole, isTrue a (F j).env whole = (do let v ← whole; standAt a.pos; holding [v] (truthy v)) := by intro _ _; rfl) : DT F a (tstD da) := by
  obtain ⟨t, p, sa⟩ := h
  exact ⟨_, fun j => pt_val (p j) (he j), fun G fr ps s σ H Q Qd R L h f => sa G fr ps s σ H _ _ R L h (fin_bl f)⟩
def notD (e : XT) : XT := fun s Q => e s fun b ce => Q (!b) ce
def andD (e u : XT) : XT := fun s Q => e s fun b ce => if b = true then u ⟨s.sl, ce⟩ Q else Q false ce
def orD (e u : XT) : XT := fun s Q => e s fun b ce => if b = true then Q true ce else u ⟨s.sl, ce⟩ Q
theorem dt_not (h : DT F a dA) : DT F (.UnaryOp .Not a pos) (notD dA) := by
  obtain ⟨t, p, sa⟩ := h
  refine ⟨_, fun j => pt_not (p j), fun G fr ps s σ H Q Qd R L h f => sa G fr ps s σ H _ _ R L h fun b ce G1 ps1 H1 v q u R1 k => ?_⟩
  obtain rfl : v = b := k
  exact f _ _ G1 ps1 H1 _ q u R1 rfl
section
variable {rest : List Expr}
theorem st_and {tA tB' : TT} (sa : ST tA dA) (sb : ST tB' dB) : ST (tAnd tA tB') (andD dA dB) := fun G fr ps s σ H Q Qd R L h f => by
  refine sa G fr ps s σ H _ _ R L h fun b ce1 G1 ps1 H1 v q u1 R1 k => ?_
  obtain rfl : v = b := k
  cases v with
  | true => exact sb G1 fr ps1 ⟨s.sl, ce1⟩ σ H1 _ _ R1 (L.up u1) q (f.up u1)
  | false => exact f _ _ G1 ps1 H1 _ q u1 R1 rfl
theorem st_or {tA tB' : TT} (sa : ST tA dA) (sb : ST tB' dB) : ST (tOr tA tB') (orD dA dB) := fun G fr ps s σ H Q Qd R L h f => by
  refine sa G fr ps s σ H _ _ R L h fun b ce1 G1 ps1 H1 v q u1 R1 k => ?_
  obtain rfl : v = b := k
  cases v with
  | false => exact sb G1 fr ps1 ⟨s.sl, ce1⟩ σ H1 _ _ R1 (L.up u1) q (f.up u1)
  | true => exact f _ _ G1 ps1 H1 _ q u1 R1 rfl
theorem dw_and1 (h : DT F a dA) : DW F (.BoolOp .And [a] pos) dA := let ⟨_, p, sa⟩ := h; ⟨_, fun j => pw_and1 (p j), sa⟩
theorem dw_or1 (h : DT F a dA) : DW F (.BoolOp .Or [a] pos) dA := let ⟨_, p, sa⟩ := h; ⟨_, fun j => pw_or1 (p j), sa⟩
theorem dw_and (h : DT F a dA) (hb : DW F (.BoolOp .And (b :: rest) pos) dB) : DW F (.BoolOp .And (a :: b :: rest) pos) (andD dA dB) := let ⟨_, p, sa⟩ := h; let ⟨_, q, sb⟩ := hb; ⟨_, fun j => pw_and (p j) (q j), st_and sa sb⟩
theorem dw_or (h : DT F a dA) (hb : DW F (.BoolOp .Or (b :: rest) pos) dB) : DW F (.BoolOp .Or (a :: b :: rest) pos) (orD dA dB) := let ⟨_, p, sa⟩ := h; let ⟨_, q, sb⟩ := hb; ⟨_, fun j => pw_or (p j) (q j), st_or sa sb⟩
theorem dw_t (h : DW F a dA) : DT F a dA := let ⟨_, p, sa⟩ := h; ⟨_, fun j => (p j).pt, sa⟩
/-- .. as values (bools) -/
def andV (e u : XE) : XE := fun s Q => e s fun r ce => match r with
  | .d (.bl b) => if b = true then u ⟨s.sl, ce⟩ Q else Q (.d (.bl false)) ce
  | _ => False
def orV (e u : XE) : XE := fun s Q => e s fun r ce => match r with
  | .d (.bl b) => if b = true then Q (.d (.bl true)) ce else u ⟨s.sl, ce⟩ Q
  | _ => False
def notV (e : XE) : XE := fun s Q => e s fun r ce => match r with
  | .d (.bl b) => Q (.d (.bl (!b))) ce
  | _ => False
theorem de_one {op} (h : DE F a da) : DE F (.BoolOp op [a] pos) da := let ⟨_, p, sa⟩ := h; ⟨_, fun j => pe_one (p j), sa⟩
theorem de_and (h : DE F a da) (hb : DE F (.BoolOp .And (b :: rest) pos) db) : DE F (.BoolOp .And (a :: b :: rest) pos) (andV da db) := by
  obtain ⟨t, p, sa⟩ := h
  obtain ⟨u, q, sb⟩ := hb
  refine ⟨_, fun j => pe_and (p j) (q j), fun G fr ps s σ H Q Qd R L h f => sa G fr ps s σ H _ _ R L h fun r ce1 G1 ps1 H1 v q1 u1 R1 k => ?_⟩
  split at q1
  · cases k
    rename_i b
    cases b with
    | true => exact ⟨_, rfl, sb G1 fr ps1 ⟨s.sl, ce1⟩ σ H1 _ _ R1 (L.up u1) q1 (f.up u1)⟩
    | false => exact ⟨_, rfl, f _ _ G1 ps1 H1 _ q1 u1 R1 (.bl _)⟩
  · exact q1.elim
theorem de_or (h : DE F a da) (hb : DE F (.BoolOp .Or (b :: rest) pos) db) : DE F (.BoolOp .Or (a :: b :: rest) pos) (orV da db) := by
  obtain ⟨t, p, sa⟩ := h
  obtain ⟨u, q, sb⟩ := hb
  refine ⟨_, fun j => pe_or (p j) (q j), fun G fr ps s σ H Q Qd R L h f => sa G fr ps s σ H _ _ R L h fun r ce1 G1 ps1 H1 v q1 u1 R1 k => ?_⟩
  split at q1
  · cases k
    rename_i b
    cases b with
    | false => exact ⟨_, rfl, sb G1 fr ps1 ⟨s.sl, ce1⟩ σ H1 _ _ R1 (L.up u1) q1 (f.up u1)⟩
    | true => exact ⟨_, rfl, f _ _ G1 ps1 H1 _ q1 u1 R1 (.bl _)⟩
  · exact q1.elim
theorem de_not (h : DE F a da) : DE F (.UnaryOp .Not a pos) (notV da) := by
  obtain ⟨t, p, sa⟩ := h
  refine ⟨_, fun j => pe_not (p j), fun G fr ps s σ H Q Qd R L h f => sa G fr ps s σ H _ _ R L h fun r ce1 G1 ps1 H1 v q1 u1 R1 k => ?_⟩
  split at q1
  · cases k
    exact ⟨_, rfl, f _ _ G1 ps1 H1 _ q1 u1 R1 (.bl _)⟩
  · exact q1.elim
end
def ifD (t : XT) (e u : XE) : XE := fun s Q => t s fun b ce => if b = true then e ⟨s.sl, ce⟩ Q else u ⟨s.sl, ce⟩ Q
theorem de_if (hc : DT F c dC) (ha : DE F a da) (hb : DE F b db) : DE F (.IfExp c a b pos) (ifD dC da db) := by
  obtain ⟨w, o, sc⟩ := hc
  obtain ⟨t, p, sa⟩ := ha
  obtain ⟨u, q, sb⟩ := hb
  refine ⟨_, fun j => pe_ifExp (o j) (p j) (q j), fun G fr ps s σ H Q Qd R L h f => sc G fr ps s σ H _ _ R L h fun r ce1 G1 ps1 H1 v q1 u1 R1 k => ?_⟩
  obtain rfl : v = r := k
  cases v with
  | true => exact sa G1 fr ps1 ⟨s.sl, ce1⟩ σ H1 _ _ R1 (L.up u1) q1 (f.up u1)
  | false => exact sb G1 fr ps1 ⟨s.sl, ce1⟩ σ H1 _ _ R1 (L.up u1) q1 (f.up u1)
end
/-! what a value holds -/
def itemsOf (ce : List Cl) : Rf → Option (List Dt)
  | .d (.tup ds) => some ds
  | .d (.lst ds) => some ds
  | .c k => match ce[k]? with
    | some (.own ds) => some ds
    | some (.frz ds) => some ds
    | _ => none
  | _ => none
def lstOf (ce : List Cl) : Rf → Option (List Dt)
  | .d (.lst ds) => some ds
  | .c k => match ce[k]? with
    | some (.own ds) => some ds
    | some (.frz ds) => some ds
    | _ => none
  | _ => none
def treeOf (ce : List Cl) : Rf → Option Dt
  | .d t => some t
  | .c k => match ce[k]? with
    | some (.own ds) => some (.lst ds)
    | some (.frz ds) => some (.lst ds)
    | _ => none
section
variable {G H : Hp} {fr : List (Addr × HO)} {ps : List Addr} {ce : List Cl} {v : V} {r : Rf} {ds : List Dt} {t : Dt}
theorem cell_at (R : Rl G fr ps ce H) {k : Nat} {p : Addr} (hp : ps[k]? = some p) : (ce[k]? = some (.own ds) ∨ ce[k]? = some (.frz ds)) → ∃ xs, H p = some (.lst xs) ∧ Iss G xs ds := by
  rintro (h | h)
  · obtain ⟨_, xs, a, b⟩ := R.ce k p _ hp h
    exact ⟨xs, a, b⟩
  · obtain ⟨xs, a, b⟩ := R.ce k p _ hp h
    exact ⟨xs, R.ex _ _ a, b⟩
theorem lst_at (R : Rl G fr ps ce H) (hr : RfOk G ps v r) (h : lstOf ce r = some ds) : ∃ a xs, v = .ref a ∧ H a = some (.lst xs) ∧ Iss G xs ds := by
  cases r with
  | d t =>
    cases t with
    | lst es =>
      cases h
      obtain ⟨a, xs, e, h1, h2⟩ := Is.inL hr
      exact ⟨a, xs, e, R.ex _ _ h1, h2⟩
    | _ => cases h
  | c k =>
    obtain ⟨p, e, hp⟩ := hr
    have : ce[k]? = some (.own ds) ∨ ce[k]? = some (.frz ds) := by
      have h : (match ce[k]? with | some (.own ds) => some ds | some (.frz ds) => some ds | _ => none) = some ds := h
      split at h
      · rename_i e
        cases h
        exact .inl e
      · rename_i e
        cases h
        exact .inr e
      · cases h
    obtain ⟨xs, h1, h2⟩ := cell_at R hp this
    exact ⟨p, xs, e, h1, h2⟩
theorem items_at (R : Rl G fr ps ce H) (hr : RfOk G ps v r) (h : itemsOf ce r = some ds) : ∃ a xs, v = .ref a ∧ (H a = some (.lst xs) ∨ H a = some (.tup xs)) ∧ Iss G xs ds := by
  cases r with
  | d t =>
    cases t with
    | lst es =>
      cases h
      obtain ⟨a, xs, e, h1, h2⟩ := Is.inL hr
      exact ⟨a, xs, e, .inl (R.ex _ _ h1), h2⟩
    | tup es =>
      cases h
      obtain ⟨a, xs, e, h1, h2⟩ := Is.inT hr
      exact ⟨a, xs, e, .inr (R.ex _ _ h1), h2⟩
    | _ => cases h
  | c k =>
    obtain ⟨a, xs, e, h1, h2⟩ := lst_at (r := .c k) R hr h
    exact ⟨a, xs, e, .inl h1, h2⟩
theorem seq_at {K : PySem.W.Frag} {a : Addr} {xs : List V} (h : H a = some (.lst xs) ∨ H a = some (.tup xs)) : SqL K H a xs ∨ SqT K H a xs := h.imp Evl.sq_of Evl.st_of
theorem items_seq {K : PySem.W.Frag} (R : Rl G fr ps ce H) (hr : RfOk G ps v r) (h : itemsOf ce r = some ds) : ∃ a xs, v = .ref a ∧ (SqL K H a xs ∨ SqT K H a xs) ∧ Iss G xs ds := by
  obtain ⟨a, xs, e, h1, h2⟩ := items_at R hr h
  exact ⟨a, xs, e, seq_at h1, h2⟩
/-- a new tuple -/
theorem fin_tup {Qd : XQ} {Q : VK} (f : Fin' G fr ps Qd Q) (R : Rl G fr ps ce H) {xs : List V} (hx : Iss G xs ds) (q : Qd (.d (.tup ds)) ce) : ∀ p, H p = none → Q (.ref p) (upd H p (.tup xs)) := fun p np => by
  obtain ⟨e, R2, hp⟩ := R.ground (o := .tup xs) np
  exact f _ _ _ ps _ _ q ⟨e, List.prefix_rfl⟩ R2 (show Is _ _ _ from (hx.ex e).mkT hp)
/-- a new list -/
theorem fin_lst {Qd : XQ} {Q : VK} (f : Fin' G fr ps Qd Q) (R : Rl G fr ps ce H) {xs : List V} (hx : Iss G xs ds) (q : Qd (.c ce.length) (ce ++ [.own ds])) : ∀ p, H p = none → Q (.ref p) (upd H p (.lst xs)) := fun p np => by
  obtain ⟨u, R2, hp⟩ := R.cell np hx
  exact f _ _ _ _ _ _ q u R2 ⟨p, rfl, hp⟩
theorem fin_d {Qd : XQ} {Q : VK} (f : Fin' G fr ps Qd Q) (R : Rl G fr ps ce H) (h : Is G v t) (q : Qd (.d t) ce) : Q v H := f _ _ G ps H v q .rfl' R h
end
end TD
set_option Elab.async false
set_option linter.all false
set_option maxRecDepth 100000
set_option maxHeartbeats 1000000
/-! operators -/
namespace TD
open PySem PySem.Spec PyProof.Rows L2 TW
/-! trees as data -/
mutual
def toPy : Dt → PyData
  | .non => .none
  | .bl b => .bool b
  | .int i => .int i
  | .str x => .str x
  | .tup ds => .tuple (toPys ds)
  | .lst ds => .list (toPys ds)
  | .ins _ _ => .none
  | .raw _ => .none
  | .prm _ => .none
def toPys : List Dt → List PyData
  | [] => []
  | d :: ds => toPy d :: toPys ds
end
/-- data with no truths in it, nested n deep at most -/
def pl : Nat → Dt → Bool
  | _, .int _ => true
  | _, .non => true
  | _, .str x => (PyData.str x).canLay0
  | n + 1, .tup ds => ds.all (pl n)
  | n + 1, .lst ds => ds.all (pl n)
  | _, _ => false
noncomputable instance dtEq : DecidableEq Dt := fun a b => Classical.propDecidable (a = b)
theorem toPys_map : ∀ ds : List Dt, toPys ds = ds.map toPy
  | [] => rfl
  | d :: ds => by
    show toPy d :: toPys ds = _
    rw [toPys_map ds]
    rfl
theorem pl_up : ∀ {n m : Nat} {d : Dt}, n ≤ m → pl n d = true → pl m d = true
  | 0, m, d, _, h => by
    cases d with
    | tup ds => cases h
    | lst ds => cases h
    | int i => cases m <;> rfl
    | non => cases m <;> rfl
    | str x => cases m <;> exact h
    | _ => cases h
  | n + 1, 0, d, l, h => absurd l (by omega)
  | n + 1, m + 1, d, l, h => by
    cases d with
    | tup ds => exact List.all_eq_true.mpr fun x hx => pl_up (by omega) (List.all_eq_true.mp h x hx)
    | lst ds => exact List.all_eq_true.mpr fun x hx => pl_up (by omega) (List.all_eq_true.mp h x hx)
    | int i => rfl
    | non => rfl
    | str x => exact h
    | _ => cases h
theorem lay_all : ∀ {ds : List Dt}, (∀ d ∈ ds, (toPy d).canLay0 = true) → PyData.canLayAll0 (toPys ds) = true
  | [], _ => rfl
  | d :: ds, h => by
    show ((toPy d).canLay0 && PyData.canLayAll0 (toPys ds)) = true
    rw [h d List.mem_cons_self, lay_all fun x hx => h x (List.mem_cons_of_mem _ hx)]
    rfl
theorem dep_all : ∀ {n : Nat} {ds : List Dt}, (∀ d ∈ ds, (toPy d).depth ≤ n) → PyData.depthAll (toPys ds) ≤ n
  | n, [], _ => Nat.zero_le n
  | n, d :: ds, h => by
    show max (toPy d).depth (PyData.depthAll (toPys ds)) ≤ n
    have h1 := h d List.mem_cons_self
    have h2 := dep_all (n := n) (ds := ds) fun x hx => h x (List.mem_cons_of_mem _ hx)
    omega
theorem lay_pl : ∀ {n : Nat} {d : Dt}, pl n d = true → (toPy d).canLay0 = true ∧ (toPy d).depth ≤ n
  | 0, d, h => by
    cases d with
    | int i => exact ⟨rfl, Nat.le_refl _⟩
    | non => exact ⟨rfl, Nat.le_refl _⟩
    | str x => exact ⟨h, Nat.le_refl _⟩
    | _ => cases h
  | n + 1, d, h => by
    cases d with
    | int i => exact ⟨rfl, Nat.zero_le _⟩
    | non => exact ⟨rfl, Nat.zero_le _⟩
    | str x => exact ⟨h, Nat.zero_le _⟩
    | tup ds =>
      have h : ∀ d ∈ ds, pl n d = true := List.all_eq_true.mp h
      exact ⟨lay_all fun d hd => (lay_pl (h d hd)).1, Nat.succ_le_succ (dep_all fun d hd => (lay_pl (h d hd)).2)⟩
    | lst ds =>
      have h : ∀ d ∈ ds, pl n d = true := List.all_eq_true.mp h
      exact ⟨lay_all fun d hd => (lay_pl (h d hd)).1, Nat.succ_le_succ (dep_all fun d hd => (lay_pl (h d hd)).2)⟩
    | _ => cases h
theorem shaped_pl {n : Nat} {d : Dt} (h : pl n d = true) (l : n ≤ 64) : SeqAt.shaped (toPy d) = true := by
  obtain ⟨a, b⟩ := lay_pl h
  unfold SeqAt.shaped
  rw [a, Bool.true_and]
  exact decide_eq_true (by omega)
theorem eqv_list {P : Dt → Prop} (ih : ∀ d e, P d → P e → PyData.eqv (toPy d) (toPy e) = decide (d = e)) : ∀ {ds es : List Dt}, (∀ d ∈ ds, P d) → (∀ d ∈ es, P d) → PyData.eqvAll (toPys ds) (toPys es) = decide (ds = es)
  | [], [], _, _ => (decide_eq_true rfl).symm
  | [], e :: es, _, _ => (decide_eq_false fun h => nomatch h).symm
  | d :: ds, [], _, _ => (decide_eq_false fun h => nomatch h).symm
  | d :: ds, e :: es, h1, h2 => by
    show (PyData.eqv (toPy d) (toPy e) && PyData.eqvAll (toPys ds) (toPys es)) = _
    rw [ih d e (h1 d List.mem_cons_self) (h2 e List.mem_cons_self), eqv_list ih (fun x hx => h1 x (List.mem_cons_of_mem _ hx)) (fun x hx => h2 x (List.mem_cons_of_mem _ hx)), ← Bool.decide_and, decide_eq_decide, List.cons.injEq]
theorem eqv_pl : ∀ (n : Nat) (d e : Dt), pl n d = true → pl n e = true → PyData.eqv (toPy d) (toPy e) = decide (d = e)
  | n, .int i, e, h1, h2 => by
    cases e with
    | int j =>
      show (i == j) = _
      rw [show (i == j) = decide (i = j) from rfl, decide_eq_decide, Dt.int.injEq]
    | bl b => cases n <;> cases h2
    | ins _ _ => cases n <;> cases h2
    | raw _ => cases n <;> cases h2
    | prm _ => cases n <;> cases h2
    | _ => exact (decide_eq_false fun h => nomatch h).symm
  | n, .non, e, h1, h2 => by
    cases e with
    | non => exact (decide_eq_true rfl).symm
    | bl b => cases n <;> cases h2
    | ins _ _ => cases n <;> cases h2
    | raw _ => cases n <;> cases h2
    | prm _ => cases n <;> cases h2
    | _ => exact (decide_eq_false fun h => nomatch h).symm
  | n, .str x, e, h1, h2 => by
    cases e with
    | str y =>
      show (x == y) = _
      rw [show (x == y) = decide (x = y) from by rw [Bool.eq_iff_iff, beq_iff_eq, decide_eq_true_iff], decide_eq_decide, Dt.str.injEq]
    | bl b => cases n <;> cases h2
    | ins _ _ => cases n <;> cases h2
    | raw _ => cases n <;> cases h2
    | prm _ => cases n <;> cases h2
    | _ => exact (decide_eq_false fun h => nomatch h).symm
  | 0, .tup ds, e, h1, h2 => by cases h1
  | 0, .lst ds, e, h1, h2 => by cases h1
  | n + 1, .tup ds, e, h1, h2 => by
    cases e with
    | tup es =>
      show PyData.eqvAll (toPys ds) (toPys es) = _
      rw [eqv_list (P := fun d => pl n d = true) (fun d e => eqv_pl n d e) (List.all_eq_true.mp h1) (List.all_eq_true.mp h2), decide_eq_decide, Dt.tup.injEq]
    | bl b => cases h2
    | ins _ _ => cases h2
    | raw _ => cases h2
    | prm _ => cases h2
    | _ => exact (decide_eq_false fun h => nomatch h).symm
  | n + 1, .lst ds, e, h1, h2 => by
    cases e with
    | lst es =>
      show PyData.eqvAll (toPys ds) (toPys es) = _
      rw [eqv_list (P := fun d => pl n d = true) (fun d e => eqv_pl n d e) (List.all_eq_true.mp h1) (List.all_eq_true.mp h2), decide_eq_decide, Dt.lst.injEq]
    | bl b => cases h2
    | ins _ _ => cases h2
    | raw _ => cases h2
    | prm _ => cases h2
    | _ => exact (decide_eq_false fun h => nomatch h).symm
  | n, .bl b, e, h1, h2 => by cases n <;> cases h1
  | n, .ins _ _, e, h1, h2 => by cases n <;> cases h1
  | n, .prm _, e, h1, h2 => by cases n <;> cases h1
  | n, .raw _, e, h1, h2 => by cases n <;> cases h1
theorem ats_of {H : Hp} {P : Dt → Prop} (ih : ∀ x d, P d → Is H x d → At H x (toPy d)) {xs : List V} {ds : List Dt} (h : Iss H xs ds) (hp : ∀ d ∈ ds, P d) : Ats H xs (toPys ds) := by
  rw [toPys_map]
  refine ⟨by rw [List.length_map]; exact h.1, fun i x p h1 h2 => ?_⟩
  rw [List.getElem?_map] at h2
  cases e : ds[i]? with
  | none => rw [e] at h2; cases h2
  | some d =>
    rw [e] at h2
    cases h2
    exact ih x d (hp d (List.mem_of_getElem? e)) (h.2 i x d h1 e)
theorem at_pl {H : Hp} : ∀ (n : Nat) (x : V) (d : Dt), pl n d = true → Is H x d → At H x (toPy d)
  | n, x, .int i, _, h => by cases h; exact .int i
  | n, x, .non, _, h => by cases h; exact .non
  | n, x, .str y, _, h => by cases h; exact .str y
  | 0, x, .tup ds, h, _ => by cases h
  | 0, x, .lst ds, h, _ => by cases h
  | n + 1, x, .tup ds, hp, h => by
    obtain ⟨a, xs, rfl, h1, h2⟩ := h.inT
    exact At.mkT h1 (ats_of (P := fun d => pl n d = true) (fun x d => at_pl n x d) h2 (List.all_eq_true.mp hp))
  | n + 1, x, .lst ds, hp, h => by
    obtain ⟨a, xs, rfl, h1, h2⟩ := h.inL
    exact At.mkL h1 (ats_of (P := fun d => pl n d = true) (fun x d => at_pl n x d) h2 (List.all_eq_true.mp hp))
  | n, x, .bl b, h, _ => by cases n <;> cases h
  | n, x, .ins _ _, h, _ => by cases n <;> cases h
  | n, x, .raw _, h, _ => by cases n <;> cases h
  | n, x, .prm _, h, _ => by cases n <;> cases h
/-- what stands for a tree that a cell may hold -/
theorem tree_at {G H : Hp} {fr : List (Addr × HO)} {ps : List Addr} {ce : List Cl} {v : V} {r : Rf} {t : Dt} {n : Nat} (R : Rl G fr ps ce H) (hr : RfOk G ps v r) (h : treeOf ce r = some t) (hp : pl n t = true) : At H v (toPy t) := by
  cases r with
  | d u =>
    obtain rfl : u = t := Option.some.inj h
    exact at_pl n v u hp (Is.ex hr R.ex)
  | c k =>
    have : ∃ ds, t = .lst ds ∧ lstOf ce (.c k) = some ds := by
      have h : (match ce[k]? with | some (.own ds) => some (Dt.lst ds) | some (.frz ds) => some (Dt.lst ds) | _ => none) = some t := h
      show ∃ ds, t = .lst ds ∧ (match ce[k]? with | some (.own ds) => some ds | some (.frz ds) => some ds | _ => none) = some ds
      split at h
      · rename_i ds e
        exact ⟨ds, (Option.some.inj h).symm, rfl⟩
      · rename_i ds e
        exact ⟨ds, (Option.some.inj h).symm, rfl⟩
      · cases h
    obtain ⟨ds, rfl, e⟩ := this
    obtain ⟨a, xs, rfl, h1, h2⟩ := lst_at R hr e
    cases n with
    | zero => cases hp
    | succ n => exact At.mkL h1 (ats_of (P := fun d => pl n d = true) (fun x d => at_pl n x d) (h2.ex R.ex) (List.all_eq_true.mp hp))
/-! operators of ints -/
def iiD (f : Int → Int → Dt) : XO := fun a b ce Q => match a, b with
  | .d (.int i), .d (.int j) => Q (.d (f i j)) ce
  | _, _ => False
def iiC (C : Int → Int → Prop) (f : Int → Int → Dt) : XO := fun a b ce Q => match a, b with
  | .d (.int i), .d (.int j) => C i j ∧ Q (.d (f i j)) ce
  | _, _ => False
theorem so_ii {g : Int → Int → V} {f : Int → Int → Dt} (h : ∀ i j G, Is G (g i j) (f i j)) : SO (rI0 g) (iiD f) := fun G fr ps ce H x y a b Q Qd R ra rb q f => by
  unfold iiD at q
  split at q
  · cases ra
    cases rb
    exact ⟨_, _, rfl, rfl, fin_d f R (h _ _ _) q⟩
  · exact q.elim
theorem so_iic {C : Int → Int → Prop} {g : Int → Int → V} {f : Int → Int → Dt} (h : ∀ i j G, Is G (g i j) (f i j)) : SO (rI C g) (iiC C f) := fun G fr ps ce H x y a b Q Qd R ra rb q f => by
  unfold iiC at q
  split at q
  · cases ra
    cases rb
    exact ⟨_, _, rfl, rfl, q.1, fin_d f R (h _ _ _) q.2⟩
  · exact q.elim
theorem opr_or {X : Cx} {f : Value → Value → Sem Value} {r r' : R2} (h : OpR X f r) (h' : OpR X f r') : OpR X f (fun x y H Q => r x y H Q ∨ r' x y H Q) := fun pins s σ H x y v u Q I rx ry q => q.elim (h pins s σ H x y v u Q I rx ry) (h' pins s σ H x y v u Q I rx ry)
section
variable {ι : Type} {F : ι → Cx} {K : PySem.W.Frag}
theorem do_sub : DO F (binaryOp .Sub) (iiD fun i j => .int (i - j)) := ⟨_, fun _ => op_sub, so_ii fun _ _ _ => .int _⟩
theorem do_mod : DO F (binaryOp .Mod) (iiC (fun _ j => 0 < j) fun i j => .int (i % j)) := ⟨_, fun _ => op_mod, so_iic fun _ _ _ => .int _⟩
theorem do_div : DO F (binaryOp .FloorDiv) (iiC CDivW fun i j => .int (i / j)) := ⟨_, fun _ => op_fdivW, so_iic fun _ _ _ => .int _⟩
theorem do_pow : DO F (binaryOp .Pow) (iiC CPow fun i j => .int (i ^ j.toNat)) := ⟨_, fun _ => op_pow, so_iic fun _ _ _ => .int _⟩
theorem do_and : DO F (binaryOp .BitAnd) (iiD fun i j => .int (Builtin.bitAnd i j)) := ⟨_, fun _ => op_and, so_ii fun _ _ _ => .int _⟩
theorem do_or : DO F (binaryOp .BitOr) (iiD fun i j => .int (Builtin.bitOr i j)) := ⟨_, fun _ => op_or, so_ii fun _ _ _ => .int _⟩
theorem do_xor : DO F (binaryOp .BitXor) (iiD fun i j => .int (Builtin.bitXor i j)) := ⟨_, fun _ => op_xor, so_ii fun _ _ _ => .int _⟩
theorem do_shl : DO F (binaryOp .LShift) (iiC CPow fun i j => .int (i * 2 ^ j.toNat)) := ⟨_, fun _ => op_shl, so_iic fun _ _ _ => .int _⟩
theorem do_shr : DO F (binaryOp .RShift) (iiC (fun _ j => 0 ≤ j) fun i j => .int (i / 2 ^ j.toNat)) := ⟨_, fun _ => op_shr, so_iic fun _ _ _ => .int _⟩
/-- a + b -/
def addD : XO := fun a b ce Q => match a, b with
  | .d (.int i), .d (.int j) => Q (.d (.int (i + j))) ce
  | .d (.tup xs), .d (.tup ys) => xs.length + ys.length ≤ 100000 ∧ Q (.d (.tup (xs ++ ys))) ce
  | _, _ => ∃ xs ys, lstOf ce a = some xs ∧ lstOf ce b = some ys ∧ xs.length + ys.length ≤ 100000 ∧ Q (.c ce.length) (ce ++ [.own (xs ++ ys)])
theorem do_add (hK : ∀ i, (F i).K = K := by intro _; rfl) : DO F (binaryOp .Add) addD := by
  refine ⟨fun x y H Q => (rI0 (fun i j => .int (i + j)) x y H Q ∨ rCatA K x y H Q) ∨ rCat x y H Q, fun i => opr_or (opr_or op_add (by have := hK i; subst this; exact op_catA)) op_cat, fun G fr ps ce H x y a b Q Qd R ra rb q f => ?_⟩
  unfold addD at q
  split at q
  · cases ra
    cases rb
    exact .inl (.inl ⟨_, _, rfl, rfl, fin_d f R (.int _) q⟩)
  · rename_i xs ys
    obtain ⟨p, us, rfl, h1, h2⟩ := Is.inT ra
    obtain ⟨p', us', rfl, h1', h2'⟩ := Is.inT rb
    refine .inl (.inr ⟨p, p', us, us', rfl, rfl, Evl.st_of (R.ex _ _ h1), Evl.st_of (R.ex _ _ h1'), sz (by rw [h2.1, h2'.1]; exact q.1), fun e => ?_, fun _ e => ?_, fun _ _ => ?_⟩)
    · have : xs = [] := List.eq_nil_of_length_eq_zero (by rw [← h2.1, e]; rfl)
      subst this
      exact fin_d f R (h2'.mkT h1') q.2
    · have : ys = [] := List.eq_nil_of_length_eq_zero (by rw [← h2'.1, e]; rfl)
      subst this
      exact fin_d f R (h2.mkT h1) (by have := q.2; rw [List.append_nil] at this; exact this)
    · exact fin_tup f R (h2.append h2') q.2
  · obtain ⟨xs, ys, e1, e2, l, q⟩ := q
    obtain ⟨p, us, rfl, h1, h2⟩ := lst_at R ra e1
    obtain ⟨p', us', rfl, h1', h2'⟩ := lst_at R rb e2
    exact .inr ⟨p, p', us, us', rfl, rfl, h1, h1', sz (by rw [h2.1, h2'.1]; exact l), fin_lst f R (h2.append h2') q⟩
/-- a * b -/
def mulD : XO := fun a b ce Q => match a, b with
  | .d (.int i), .d (.int j) => CMulW i j ∧ Q (.d (.int (i * j))) ce
  | _, .d (.int k) => ∃ xs, lstOf ce a = some xs ∧ -(2 ^ 63) ≤ k ∧ k < 2 ^ 63 ∧ xs.length * k.toNat ≤ 100000 ∧ Q (.c ce.length) (ce ++ [.own (List.replicate k.toNat xs).flatten])
  | _, _ => False
theorem iss_flat {G : Hp} {xs : List V} {ds : List Dt} (h : Iss G xs ds) : ∀ k, Iss G (List.replicate k xs).flatten (List.replicate k ds).flatten
  | 0 => .nil
  | k + 1 => by
    rw [List.replicate_succ, List.replicate_succ, List.flatten_cons, List.flatten_cons]
    exact h.append (iss_flat h k)
theorem do_mul : DO F (binaryOp .Mult) mulD := by
  refine ⟨_, fun i => opr_or op_mulW op_rep, fun G fr ps ce H x y a b Q Qd R ra rb q f => ?_⟩
  unfold mulD at q
  split at q
  · cases ra
    cases rb
    exact .inl ⟨_, _, rfl, rfl, q.1, fin_d f R (.int _) q.2⟩
  · cases rb
    obtain ⟨xs, e1, l1, l2, l, q⟩ := q
    obtain ⟨p, us, rfl, h1, h2⟩ := lst_at R ra e1
    exact .inr ⟨p, _, us, rfl, rfl, h1, l1, l2, sz (by rw [h2.1]; exact l), fin_lst f R (iss_flat h2 _) q⟩
  · exact q.elim
/-! comparisons -/
def ngt (n b : Bool) : Bool := match n with
  | false => b
  | true => !b
def eqD (neg : Bool) : XO := fun a b ce Q => match a, b with
  | .d (.int i), .d (.int j) => Q (.d (.bl (ngt neg (decide (i = j))))) ce
  | .d (.bl i), .d (.bl j) => Q (.d (.bl (ngt neg (decide (i = j))))) ce
  | .d (.str i), .d (.str j) => Q (.d (.bl (ngt neg (decide (i = j))))) ce
  | .d .non, .d .non => Q (.d (.bl (ngt neg true))) ce
  | .d .non, .d (.int _) => Q (.d (.bl (ngt neg false))) ce
  | .d (.int _), .d .non => Q (.d (.bl (ngt neg false))) ce
  | _, _ => ∃ d e, treeOf ce a = some d ∧ treeOf ce b = some e ∧ pl 60 d = true ∧ pl 60 e = true ∧ Q (.d (.bl (ngt neg (decide (d = e))))) ce
theorem dec_int (i j : Int) : decide (V.int i = V.int j) = decide (i = j) := by rw [decide_eq_decide, V.int.injEq]
theorem dec_bl (i j : Bool) : decide (V.bl i = V.bl j) = decide (i = j) := by rw [decide_eq_decide, V.bl.injEq]
theorem dec_str (i j : Str) : decide (V.str i = V.str j) = decide (i = j) := by rw [decide_eq_decide, V.str.injEq]
theorem so_eq : SO (fun x y H Q => rEq x y H Q ∨ rEqD K x y H Q) (eqD false) := fun G fr ps ce H x y a b Q Qd R ra rb q f => by
  unfold eqD at q
  split at q
  · cases ra
    cases rb
    refine .inl ⟨rfl, fin_d f R (.bl _) ?_⟩
    rw [dec_int]
    exact q
  · cases ra
    cases rb
    refine .inl ⟨rfl, fin_d f R (.bl _) ?_⟩
    rw [dec_bl]
    exact q
  · cases ra
    cases rb
    refine .inl ⟨rfl, fin_d f R (.bl _) ?_⟩
    rw [dec_str]
    exact q
  · cases ra
    cases rb
    exact .inl ⟨rfl, fin_d f R (.bl _) q⟩
  · cases ra
    cases rb
    exact .inl ⟨rfl, fin_d f R (.bl _) q⟩
  · cases ra
    cases rb
    exact .inl ⟨rfl, fin_d f R (.bl _) q⟩
  · obtain ⟨d, e, h1, h2, p1, p2, q⟩ := q
    refine .inr ⟨toPy d, toPy e, (tree_at R ra h1 p1).dp, (tree_at R rb h2 p2).dp, shaped_pl p1 (by decide), shaped_pl p2 (by decide), fin_d f R (.bl _) ?_⟩
    rw [eqv_pl 60 d e p1 p2]
    exact q
theorem so_ne : SO (fun x y H Q => rNe x y H Q ∨ rNeD K x y H Q) (eqD true) := fun G fr ps ce H x y a b Q Qd R ra rb q f => by
  unfold eqD at q
  split at q
  · cases ra
    cases rb
    refine .inl ⟨rfl, fin_d f R (.bl _) ?_⟩
    rw [dec_int]
    exact q
  · cases ra
    cases rb
    refine .inl ⟨rfl, fin_d f R (.bl _) ?_⟩
    rw [dec_bl]
    exact q
  · cases ra
    cases rb
    refine .inl ⟨rfl, fin_d f R (.bl _) ?_⟩
    rw [dec_str]
    exact q
  · cases ra
    cases rb
    exact .inl ⟨rfl, fin_d f R (.bl _) q⟩
  · cases ra
    cases rb
    exact .inl ⟨rfl, fin_d f R (.bl _) q⟩
  · cases ra
    cases rb
    exact .inl ⟨rfl, fin_d f R (.bl _) q⟩
  · obtain ⟨d, e, h1, h2, p1, p2, q⟩ := q
    refine .inr ⟨toPy d, toPy e, (tree_at R ra h1 p1).dp, (tree_at R rb h2 p2).dp, shaped_pl p1 (by decide), shaped_pl p2 (by decide), fin_d f R (.bl _) ?_⟩
    rw [eqv_pl 60 d e p1 p2]
    exact q
theorem do_eq (hu : ∀ i, (F i).A.units + 64 < cLine) (hK : ∀ i, (F i).K = K := by intro _; rfl) : DO F (compareOp .Eq) (eqD false) := ⟨_, fun i => opr_or op_eq (by have := hK i; subst this; exact op_eqD (hu i)), so_eq (K := K)⟩
theorem do_ne (hu : ∀ i, (F i).A.units + 64 < cLine) (hK : ∀ i, (F i).K = K := by intro _; rfl) : DO F (compareOp .NotEq) (eqD true) := ⟨_, fun i => opr_or op_ne (by have := hK i; subst this; exact op_neD (hu i)), so_ne (K := K)⟩
/-- a < b: ints, tuples of ints -/
def ltD : XO := fun a b ce Q => match a, b with
  | .d (.int i), .d (.int j) => Q (.d (.bl (decide (i < j)))) ce
  | .d (.tup xs), .d (.tup ys) => ∃ ns ms : List Int, xs = ns.map Dt.int ∧ ys = ms.map Dt.int ∧ Q (.d (.bl (HT.lexLt ns ms))) ce
  | _, _ => False
theorem do_lt (hu : ∀ i, (F i).A.units < cLine) (hK : ∀ i, (F i).K = K := by intro _; rfl) : DO F (compareOp .Lt) ltD := by
  refine ⟨fun x y H Q => rI0 (fun i j => .bl (decide (i < j))) x y H Q ∨ rLtT K x y H Q, fun i => opr_or op_lt (by have := hK i; subst this; exact op_ltT (hu i)), fun G fr ps ce H x y a b Q Qd R ra rb q f => ?_⟩
  unfold ltD at q
  split at q
  · cases ra
    cases rb
    exact .inl ⟨_, _, rfl, rfl, fin_d f R (.bl _) q⟩
  · obtain ⟨ns, ms, rfl, rfl, q⟩ := q
    obtain ⟨p, us, rfl, h1, h2⟩ := Is.inT ra
    obtain ⟨p', us', rfl, h1', h2'⟩ := Is.inT rb
    exact .inr ⟨p, p', ns, ms, rfl, rfl, Evl.st_of (by rw [← h2.ints]; exact R.ex _ _ h1), Evl.st_of (by rw [← h2'.ints]; exact R.ex _ _ h1'), fin_d f R (.bl _) q⟩
  · exact q.elim
theorem do_le : DO F (compareOp .LtE) (iiD fun i j => .bl (decide (i ≤ j))) := ⟨_, fun _ => op_le, so_ii fun _ _ _ => .bl _⟩
theorem do_gt : DO F (compareOp .Gt) (iiD fun i j => .bl (decide (j < i))) := ⟨_, fun _ => op_gt, so_ii fun _ _ _ => .bl _⟩
theorem do_ge : DO F (compareOp .GtE) (iiD fun i j => .bl (decide (j ≤ i))) := ⟨_, fun _ => op_ge, so_ii fun _ _ _ => .bl _⟩
/-- a is None -/
def isN : Rf → Bool
  | .d .non => true
  | _ => false
def isRaw : Rf → Bool
  | .d (.raw _) => true
  | .d (.prm _) => true
  | _ => false
def isD (neg : Bool) : XO := fun a b ce Q => match b with
  | .d .non => isRaw a = false ∧ Q (.d (.bl (ngt neg (isN a)))) ce
  | _ => False
theorem non_is {G : Hp} {ps : List Addr} {x : V} {a : Rf} (h : RfOk G ps x a) (hr : isRaw a = false) : decide (x = V.non) = isN a := by
  cases a with
  | c k =>
    obtain ⟨p, rfl, _⟩ := h
    exact decide_eq_false fun e => nomatch e
  | d t =>
    have h : Is G x t := h
    cases h with
    | raw v => cases hr
    | prm v => cases hr
    | non => exact decide_eq_true rfl
    | _ => exact decide_eq_false fun e => nomatch e
theorem so_is (neg : Bool) : SO (fun x y H Q => y = .non ∧ Q (.bl (ngt neg (decide (x = .non)))) H) (isD neg) := fun G fr ps ce H x y a b Q Qd R ra rb q f => by
  unfold isD at q
  split at q
  · cases rb
    refine ⟨rfl, fin_d f R (.bl _) ?_⟩
    rw [non_is ra q.1]
    exact q.2
  · exact q.elim
theorem do_is : DO F (compareOp .Is) (isD false) := ⟨_, fun _ => op_isN, so_is false⟩
theorem do_isn : DO F (compareOp .IsNot) (isD true) := ⟨_, fun _ => op_notN, so_is true⟩
/-- a in b -/
def inD (neg : Bool) : XO := fun a b ce Q => ∃ d ds, treeOf ce a = some d ∧ itemsOf ce b = some ds ∧ pl 60 d = true ∧ ds.all (pl 60) = true ∧ Q (.d (.bl (ngt neg (decide (d ∈ ds))))) ce
theorem any_eqv {d : Dt} (hd : pl 60 d = true) : ∀ {ds : List Dt}, (∀ e ∈ ds, pl 60 e = true) → ((toPys ds).any fun z => PyData.eqv z (toPy d)) = decide (d ∈ ds)
  | [], _ => (decide_eq_false List.not_mem_nil).symm
  | e :: ds, h => by
    show (PyData.eqv (toPy e) (toPy d) || (toPys ds).any fun z => PyData.eqv z (toPy d)) = _
    rw [eqv_pl 60 e d (h e List.mem_cons_self) hd, any_eqv hd fun x hx => h x (List.mem_cons_of_mem _ hx), ← Bool.decide_or, decide_eq_decide, List.mem_cons]
    exact ⟨fun z => z.imp Eq.symm id, fun z => z.imp Eq.symm id⟩
theorem in_at {G H : Hp} {fr : List (Addr × HO)} {ps : List Addr} {ce : List Cl} {v : V} {r : Rf} {ds : List Dt} (R : Rl G fr ps ce H) (hr : RfOk G ps v r) (h : itemsOf ce r = some ds) (hp : ds.all (pl 60) = true) : Dp K H v (.list (toPys ds)) ∨ Dp K H v (.tuple (toPys ds)) := by
  obtain ⟨a, xs, rfl, h1, h2⟩ := items_at R hr h
  have ax := ats_of (P := fun d => pl 60 d = true) (fun x d => at_pl 60 x d) (h2.ex R.ex) (List.all_eq_true.mp hp)
  exact h1.imp (fun e => (At.mkL e ax).dp) (fun e => (At.mkT e ax).dp)
theorem shaped_ds {ds : List Dt} (h : ds.all (pl 60) = true) : SeqAt.shaped (.list (toPys ds)) = true ∧ SeqAt.shaped (.tuple (toPys ds)) = true :=
  ⟨shaped_pl (n := 61) (d := .lst ds) h (by decide), shaped_pl (n := 61) (d := .tup ds) h (by decide)⟩
theorem do_in (hu : ∀ i, (F i).A.units + 65 < cLine) (hK : ∀ i, (F i).K = K := by intro _; rfl) : DO F (compareOp .In) (inD false) := by
  refine ⟨fun x y H Q => rInD K x y H Q ∨ rInDT K x y H Q, fun i => opr_or (by have := hK i; subst this; exact op_inD (hu i)) (op_inDT (hu i) (hK i)), fun G fr ps ce H x y a b Q Qd R ra rb q f => ?_⟩
  obtain ⟨d, ds, h1, h2, p1, p2, q⟩ := q
  have e := any_eqv p1 (List.all_eq_true.mp p2)
  rcases in_at (K := K) R rb h2 p2 with h | h
  · refine .inl ⟨toPy d, _, (tree_at R ra h1 p1).dp, h, shaped_pl p1 (by decide), (shaped_ds p2).1, fin_d f R (.bl _) ?_⟩
    rw [e]
    exact q
  · refine .inr ⟨toPy d, _, (tree_at R ra h1 p1).dp, h, shaped_pl p1 (by decide), (shaped_ds p2).2, fin_d f R (.bl _) ?_⟩
    rw [e]
    exact q
theorem do_nin (hu : ∀ i, (F i).A.units + 65 < cLine) (hK : ∀ i, (F i).K = K := by intro _; rfl) : DO F (compareOp .NotIn) (inD true) := by
  refine ⟨fun x y H Q => rNotInD K x y H Q ∨ rNotInDT K x y H Q, fun i => opr_or (by have := hK i; subst this; exact op_notInD (hu i)) (op_notInDT (hu i) (hK i)), fun G fr ps ce H x y a b Q Qd R ra rb q f => ?_⟩
  obtain ⟨d, ds, h1, h2, p1, p2, q⟩ := q
  have e := any_eqv p1 (List.all_eq_true.mp p2)
  rcases in_at (K := K) R rb h2 p2 with h | h
  · refine .inl ⟨toPy d, _, (tree_at R ra h1 p1).dp, h, shaped_pl p1 (by decide), (shaped_ds p2).1, fin_d f R (.bl _) ?_⟩
    rw [e]
    exact q
  · refine .inr ⟨toPy d, _, (tree_at R ra h1 p1).dp, h, shaped_pl p1 (by decide), (shaped_ds p2).2, fin_d f R (.bl _) ?_⟩
    rw [e]
    exact q
end
end TD
set_option Elab.async false
set_option linter.all false
set_option maxRecDepth 100000
set_option maxHeartbeats 1000000
/-! calls of builtins, displays, parts, methods of lists -/
namespace TD
open PySem PySem.Spec PyProof.Rows L2 TW
section
variable {ι : Type} {F : ι → Cx} {K : PySem.W.Frag} {a b e : Expr} {es : List Expr} {pos p : Pos} {x : Str} {id : String} {da db : XE} {dl : XA} {d : XC}
theorem SE.cal {r : List V → Hp → VK → Prop} {t : TA} (sc : SC r d) (sa : SA t dl) : SE (tCB r t) (calD d dl) := fun G fr ps s σ H Q Qd R L h f => by
  refine sa G fr ps s σ H _ _ R L h fun xs ce1 G1 ps1 H1 vs q1 u1 R1 v1 => ?_
  exact sc G1 fr ps1 ce1 H1 vs xs _ _ R1 v1 q1 (f.up u1)
theorem de_callB (hc : DC F (.builtin id) d) (hg : ∀ j, Gl (F j) x) (hm : ∀ j, (F j).mg x = none) (hv : bootBuiltins x = some (.builtin id)) (ha : DA F (e :: es) dl) (hn : x ≠ "__name__" := by decide) (hdb : (x == ("__debug__" : Str)) = false := by decide)
    (he : ∀ j, starEach (e :: es) (F j).env = (false, eval e (F j).env) :: starEach es (F j).env := by intro _; rfl) (hpl : ∀ j, (backTo pos (starEach es (F j).env)).any (·.1) = false := by intro _; rfl) : DE F (.Call (.Name x p) (e :: es) [] pos) (calD d dl) := by
  obtain ⟨r, c, sc⟩ := hc
  obtain ⟨t, q, sa⟩ := ha
  exact ⟨_, fun j => pe_callB (c j) (hg j) (hm j) hv (q j) hn hdb (he j) (hpl j), .cal sc sa⟩
theorem de_callTy (hc : DC F (.type id) d) (hg : ∀ j, Gl (F j) x) (hm : ∀ j, (F j).mg x = none) (hv : bootBuiltins x = some (.type id)) (ha : DA F (e :: es) dl) (hn : x ≠ "__name__" := by decide) (hdb : (x == ("__debug__" : Str)) = false := by decide)
    (he : ∀ j, starEach (e :: es) (F j).env = (false, eval e (F j).env) :: starEach es (F j).env := by intro _; rfl) (hpl : ∀ j, (backTo pos (starEach es (F j).env)).any (·.1) = false := by intro _; rfl) : DE F (.Call (.Name x p) (e :: es) [] pos) (calD d dl) := by
  obtain ⟨r, c, sc⟩ := hc
  obtain ⟨t, q, sa⟩ := ha
  exact ⟨_, fun j => pe_callTy (c j) (hg j) (hm j) hv (q j) hn hdb (he j) (hpl j), .cal sc sa⟩
end
def one (r : Rf → List Cl → XQ → Prop) : XC := fun as ce Q => match as with
  | [a] => r a ce Q
  | _ => False
def two (r : Rf → Rf → List Cl → XQ → Prop) : XC := fun as ce Q => match as with
  | [a, b] => r a b ce Q
  | _ => False
theorem sc_one {r : List V → Hp → VK → Prop} {d : Rf → List Cl → XQ → Prop} (h : ∀ G fr ps ce H x a Q Qd, Rl G fr ps ce H → RfOk G ps x a → d a ce Qd → Fin' G fr ps Qd Q → r [x] H Q) : SC r (one d) := fun G fr ps ce H xs as Q Qd R ra q f => by
  unfold one at q
  split at q
  · cases ra with
    | cons h1 t =>
      cases t
      exact h G fr ps ce H _ _ Q Qd R h1 q f
  · exact q.elim
theorem sc_two {r : List V → Hp → VK → Prop} {d : Rf → Rf → List Cl → XQ → Prop} (h : ∀ G fr ps ce H x y a b Q Qd, Rl G fr ps ce H → RfOk G ps x a → RfOk G ps y b → d a b ce Qd → Fin' G fr ps Qd Q → r [x, y] H Q) : SC r (two d) := fun G fr ps ce H xs as Q Qd R ra q f => by
  unfold two at q
  split at q
  · cases ra with
    | cons h1 t =>
      cases t with
      | cons h2 t =>
        cases t
        exact h G fr ps ce H _ _ _ _ Q Qd R h1 h2 q f
  · exact q.elim
def lenD : XC := one fun a ce Q => ∃ ds, itemsOf ce a = some ds ∧ Q (.d (.int ds.length)) ce
def sumD : XC := one fun a ce Q => ∃ ns : List Int, lstOf ce a = some (ns.map .int) ∧ Q (.d (.int ns.sum)) ce
def minD : XC := one fun a ce Q => ∃ ns : List Int, lstOf ce a = some (ns.map .int) ∧ 0 < ns.length ∧ ∀ m, m ∈ ns → (∀ y ∈ ns, m ≤ y) → Q (.d (.int m)) ce
def maxD : XC := one fun a ce Q => ∃ ns : List Int, lstOf ce a = some (ns.map .int) ∧ 0 < ns.length ∧ ∀ m, m ∈ ns → (∀ y ∈ ns, y ≤ m) → Q (.d (.int m)) ce
def min2D : XC := two fun a b ce Q => match a, b with
  | .d (.int i), .d (.int j) => Q (.d (.int (if j < i then j else i))) ce
  | _, _ => False
def max2D : XC := two fun a b ce Q => match a, b with
  | .d (.int i), .d (.int j) => Q (.d (.int (if j > i then j else i))) ce
  | _, _ => False
def intD : XC := one fun a ce Q => match a with
  | .d (.int i) => Q (.d (.int i)) ce
  | .d (.bl b) => Q (.d (.int (if b then 1 else 0))) ce
  | _ => False
def tupD' : XC := one fun a ce Q => ∃ ds, itemsOf ce a = some ds ∧ Q (.d (.tup ds)) ce
def lisD : XC := one fun a ce Q => ∃ ds, itemsOf ce a = some ds ∧ Q (.c ce.length) (ce ++ [.own ds])
def allD : XC := one fun a ce Q => ∃ bs : List Bool, lstOf ce a = some (bs.map .bl) ∧ Q (.d (.bl (bs.all id))) ce
def anyD : XC := one fun a ce Q => ∃ bs : List Bool, lstOf ce a = some (bs.map .bl) ∧ Q (.d (.bl (bs.any id))) ce
/-- sorted, ints -/
def sortI : XC := one fun a ce Q => ∃ ns : List Int, lstOf ce a = some (ns.map .int) ∧ ∀ ns' : List Int, ns'.Perm ns → ns'.Pairwise (· ≤ ·) → Q (.c ce.length) (ce ++ [.own (ns'.map .int)])
/-- sorted, tuples of ints, or data of one kind -/
def Srt (ds : List Dt) : Prop := ((PySem.W.AllAlike (ds.map toPy) ∧ PySem.W.Sortable (ds.map toPy)) ∨ ∀ d ∈ ds, ∃ ns : List Int, d = .tup (ns.map .int)) ∧ ∀ d ∈ ds, pl 20 d = true
def sortT : XC := one fun a ce Q => ∃ ds, lstOf ce a = some ds ∧ Srt ds ∧ ∀ ds' : List Dt, ds'.Perm ds → ds'.Pairwise (fun x y => PySem.W.dataLt (toPy y) (toPy x) = false) → Q (.c ce.length) (ce ++ [.own ds'])
/-- a fresh list of what others hold -/
theorem iss_perm {H : Hp} : ∀ {ds ds' : List Dt}, ds'.Perm ds → ∀ {xs : List V}, Iss H xs ds → ∃ xs', xs'.Perm xs ∧ Iss H xs' ds' := by
  intro ds ds' h
  induction h.symm with
  | nil => exact fun {xs} hx => ⟨xs, .refl _, hx⟩
  | @cons d l1 l2 p ih =>
    intro xs hx
    cases xs with
    | nil => cases hx.1
    | cons x xs =>
      obtain ⟨xs', p', h'⟩ := ih p.symm hx.rest
      exact ⟨x :: xs', p'.cons x, .cons hx.head h'⟩
  | swap d e l =>
    intro xs hx
    match xs, hx with
    | [], hx => cases hx.1
    | [_], hx => cases hx.1
    | x :: y :: xs, hx => exact ⟨y :: x :: xs, .swap _ _ _, .cons hx.rest.head (.cons hx.head hx.rest.rest)⟩
  | trans p1 p2 ih1 ih2 =>
    intro xs hx
    obtain ⟨x1, q1, h1⟩ := ih1 p1.symm hx
    obtain ⟨x2, q2, h2⟩ := ih2 p2.symm h1
    exact ⟨x2, q2.trans q1, h2⟩
/-- places of both lists go together -/
theorem iss_zip {H : Hp} : ∀ {xs : List V} {ds : List Dt}, Iss H xs ds → ∃ bs : List (V × Dt), bs.map (·.1) = xs ∧ bs.map (·.2) = ds ∧ ∀ b ∈ bs, Is H b.1 b.2
  | [], [], _ => ⟨[], rfl, rfl, fun _ h => absurd h List.not_mem_nil⟩
  | [], _ :: _, h => by cases h.1
  | _ :: _, [], h => by cases h.1
  | x :: xs, d :: ds, h => by
    obtain ⟨bs, h1, h2, h3⟩ := iss_zip h.rest
    exact ⟨(x, d) :: bs, by rw [List.map_cons, h1], by rw [List.map_cons, h2], fun b hb => (List.mem_cons.mp hb).elim (fun e => by rw [e]; exact h.head) (h3 b)⟩
theorem iss_of {H : Hp} : ∀ {bs : List (V × Dt)}, (∀ b ∈ bs, Is H b.1 b.2) → Iss H (bs.map (·.1)) (bs.map (·.2))
  | [], _ => .nil
  | b :: bs, h => .cons (h b List.mem_cons_self) (iss_of fun c hc => h c (List.mem_cons_of_mem _ hc))
section
variable {ι : Type} {F : ι → Cx} {K : PySem.W.Frag}
theorem dc_len (hK : ∀ i, (F i).K = K := by intro _; rfl) : DC F (.builtin "len") lenD := ⟨_, fun i => call_lenK (hK i), sc_one fun G fr ps ce H x a Q Qd R ra q f => by
  obtain ⟨ds, h, q⟩ := q
  obtain ⟨p, xs, rfl, h1, h2⟩ := items_seq (K := K) R ra h
  exact ⟨p, xs, rfl, h1, by rw [h2.1]; exact fin_d f R (.int _) q⟩⟩
theorem dc_sum (hc : ∀ i, (F i).calm = true := by intro _; rfl) (hK : ∀ i, (F i).K = K := by intro _; rfl) : DC F (.builtin "sum") sumD := ⟨rSum K, fun i => by have := hK i; subst this; exact cr_sum (hc i), sc_one fun G fr ps ce H x a Q Qd R ra q f => by
  obtain ⟨ns, h, q⟩ := q
  obtain ⟨p, xs, rfl, h1, h2⟩ := lst_at R ra h
  exact ⟨p, ns, rfl, Evl.sq_of (by rw [← h2.ints]; exact h1), fin_d f R (.int _) q⟩⟩
theorem dc_min (hc : ∀ i, (F i).calm = true := by intro _; rfl) (hK : ∀ i, (F i).K = K := by intro _; rfl) : DC F (.builtin "min") minD := ⟨rMin K, fun i => by have := hK i; subst this; exact cr_min (hc i), sc_one fun G fr ps ce H x a Q Qd R ra q f => by
  obtain ⟨ns, h, l, q⟩ := q
  obtain ⟨p, xs, rfl, h1, h2⟩ := lst_at R ra h
  exact ⟨p, ns, rfl, Evl.sq_of (by rw [← h2.ints]; exact h1), l, fun m hm hl => fin_d f R (.int _) (q m hm hl)⟩⟩
theorem dc_max (hc : ∀ i, (F i).calm = true := by intro _; rfl) (hK : ∀ i, (F i).K = K := by intro _; rfl) : DC F (.builtin "max") maxD := ⟨rMax K, fun i => by have := hK i; subst this; exact cr_max (hc i), sc_one fun G fr ps ce H x a Q Qd R ra q f => by
  obtain ⟨ns, h, l, q⟩ := q
  obtain ⟨p, xs, rfl, h1, h2⟩ := lst_at R ra h
  exact ⟨p, ns, rfl, Evl.sq_of (by rw [← h2.ints]; exact h1), l, fun m hm hl => fin_d f R (.int _) (q m hm hl)⟩⟩
theorem dc_min2 (hc : ∀ i, (F i).calm = true := by intro _; rfl) : DC F (.builtin "min") min2D := ⟨_, fun i => call_min2 (hc i), sc_two fun G fr ps ce H x y a b Q Qd R ra rb q f => by
  split at q
  · cases ra
    cases rb
    exact ⟨_, _, rfl, fin_d f R (.int _) q⟩
  · exact q.elim⟩
theorem dc_max2 (hc : ∀ i, (F i).calm = true := by intro _; rfl) : DC F (.builtin "max") max2D := ⟨_, fun i => call_max2 (hc i), sc_two fun G fr ps ce H x y a b Q Qd R ra rb q f => by
  split at q
  · cases ra
    cases rb
    exact ⟨_, _, rfl, fin_d f R (.int _) q⟩
  · exact q.elim⟩
theorem dc_int : DC F (.type "int") intD := ⟨_, fun i => call_int1, sc_one fun G fr ps ce H x a Q Qd R ra q f => by
  split at q
  · cases ra
    exact .inl ⟨_, rfl, fin_d f R (.int _) q⟩
  · cases ra
    exact .inr ⟨_, rfl, fin_d f R (.int _) q⟩
  · exact q.elim⟩
theorem dc_tup (hK : ∀ i, (F i).K = K := by intro _; rfl) : DC F (.type "tuple") tupD' := ⟨_, fun i => call_tupleK (hK i), sc_one fun G fr ps ce H x a Q Qd R ra q f => by
  obtain ⟨ds, h, q⟩ := q
  cases a with
  | d t =>
    cases t with
    | tup es =>
      cases h
      obtain ⟨p, xs, rfl, h1, h2⟩ := Is.inT ra
      exact ⟨p, xs, rfl, .inr ⟨Evl.st_of (R.ex _ _ h1), fin_d f R ra q⟩⟩
    | lst es =>
      cases h
      obtain ⟨p, xs, rfl, h1, h2⟩ := Is.inL ra
      exact ⟨p, xs, rfl, .inl ⟨Evl.sq_of (R.ex _ _ h1), fin_tup f R h2 q⟩⟩
    | _ => cases h
  | c k =>
    obtain ⟨p, xs, rfl, h1, h2⟩ := lst_at (r := .c k) R ra h
    exact ⟨p, xs, rfl, .inl ⟨Evl.sq_of h1, fin_tup f R h2 q⟩⟩⟩
theorem dc_list (hK : ∀ i, (F i).K = K := by intro _; rfl) : DC F (.type "list") lisD := ⟨_, fun i => call_listK (hK i), sc_one fun G fr ps ce H x a Q Qd R ra q f => by
  obtain ⟨ds, h, q⟩ := q
  obtain ⟨p, xs, rfl, h1, h2⟩ := items_seq (K := K) R ra h
  exact ⟨p, xs, rfl, h1, fin_lst f R h2 q⟩⟩
theorem dc_all (hc : ∀ i, (F i).calm = true := by intro _; rfl) (hK : ∀ i, (F i).K = K := by intro _; rfl) : DC F (.builtin "all") allD := ⟨_, fun i => cr_allK (hc i) (hK i), sc_one fun G fr ps ce H x a Q Qd R ra q f => by
  obtain ⟨ns, h, q⟩ := q
  obtain ⟨p, xs, rfl, h1, h2⟩ := lst_at R ra h
  exact ⟨p, ns, rfl, Evl.sq_of (by rw [← h2.bls]; exact h1), fin_d f R (.bl _) q⟩⟩
theorem dc_any (hc : ∀ i, (F i).calm = true := by intro _; rfl) (hK : ∀ i, (F i).K = K := by intro _; rfl) : DC F (.builtin "any") anyD := ⟨_, fun i => cr_anyK (hc i) (hK i), sc_one fun G fr ps ce H x a Q Qd R ra q f => by
  obtain ⟨ns, h, q⟩ := q
  obtain ⟨p, xs, rfl, h1, h2⟩ := lst_at R ra h
  exact ⟨p, ns, rfl, Evl.sq_of (by rw [← h2.bls]; exact h1), fin_d f R (.bl _) q⟩⟩
theorem dc_sortI (hK : ∀ i, (F i).K = K := by intro _; rfl) : DC F (.builtin "sorted") sortI := ⟨rSortedI K, fun i => by have := hK i; subst this; exact cr_sortedI, sc_one fun G fr ps ce H x a Q Qd R ra q f => by
  obtain ⟨ns, h, q⟩ := q
  obtain ⟨p, xs, rfl, h1, h2⟩ := lst_at R ra h
  exact ⟨p, ns, rfl, Evl.sq_of (by rw [← h2.ints]; exact h1), fun ns' t pm up nt => fin_lst f R (iss_ints _ _) (q ns' pm up) t nt⟩⟩
theorem dc_sortT (hu : ∀ i, (F i).A.units + 64 < cLine) (hK : ∀ i, (F i).K = K := by intro _; rfl) : DC F (.builtin "sorted") sortT := ⟨_, fun i => cr_sortD (hu i) (hK i), sc_one fun G fr ps ce H x a Q Qd R ra q f => by
  obtain ⟨ds, h, ⟨hs, hp⟩, q⟩ := q
  obtain ⟨p, xs, rfl, h1, h2⟩ := lst_at R ra h
  obtain ⟨bs, b1, b2, b3⟩ := iss_zip h2
  have em : (bs.map fun b => (b.1, toPy b.2)).map (·.2) = ds.map toPy := by rw [← b2, List.map_map, List.map_map]; rfl
  have hin : ∀ b ∈ bs, pl 20 b.2 = true := fun b hb => hp b.2 (b2 ▸ List.mem_map.mpr ⟨b, hb, rfl⟩)
  refine ⟨p, bs.map fun b => (b.1, toPy b.2), rfl, Evl.sq_of ?_, fun b hb => ?_, ?_, fun b hb => ?_, fun bs' t pm up nt => ?_⟩
  · rw [List.map_map, show ((fun b : V × PyData => b.1) ∘ fun b : V × Dt => (b.1, toPy b.2)) = (·.1) from rfl, b1]
    exact h1
  · obtain ⟨c, hc, rfl⟩ := List.mem_map.mp hb
    exact (at_pl 20 c.1 c.2 (hin c hc) ((b3 c hc).ex R.ex)).dp
  · rcases hs with hs | hs
    · exact .inl (by rw [em]; exact hs)
    · refine .inr fun b hb => ?_
      obtain ⟨c, hc, rfl⟩ := List.mem_map.mp hb
      obtain ⟨ns, e⟩ := hs c.2 (b2 ▸ List.mem_map.mpr ⟨c, hc, rfl⟩)
      refine ⟨ns, ?_⟩
      show toPy c.2 = _
      rw [e]
      show PyData.tuple (toPys (ns.map Dt.int)) = .tuple (ns.map .int)
      rw [toPys_map, List.map_map]
      rfl
  · obtain ⟨c, hc, rfl⟩ := List.mem_map.mp hb
    exact (lay_pl (hin c hc)).2
  · -- the sorted ones are trees of the same
    have key : ∀ {bs' : List (V × PyData)} {cs : List (V × Dt)}, bs'.Perm (cs.map fun b => (b.1, toPy b.2)) → ∃ cs' : List (V × Dt), cs'.Perm cs ∧ bs' = cs'.map (fun b => (b.1, toPy b.2)) := by
      intro bs' cs hpm
      have := hpm.symm
      generalize hl : (cs.map fun b : V × Dt => (b.1, toPy b.2)) = l at this
      clear hpm
      induction this generalizing cs with
      | nil =>
        cases cs with
        | nil => exact ⟨[], .refl _, rfl⟩
        | cons c cs => cases hl
      | @cons b l1 l2 p ih =>
        cases cs with
        | nil => cases hl
        | cons c cs =>
          rw [List.map_cons, List.cons.injEq] at hl
          obtain ⟨e1, e2⟩ := hl
          obtain ⟨cs', p', e'⟩ := ih e2
          exact ⟨c :: cs', p'.cons c, by rw [List.map_cons, e1, e']⟩
      | swap b b2 l =>
        match cs, hl with
        | [], hl => cases hl
        | [_], hl => cases hl
        | c :: c2 :: cs, hl =>
          rw [List.map_cons, List.map_cons, List.cons.injEq, List.cons.injEq] at hl
          obtain ⟨e1, e2, e3⟩ := hl
          exact ⟨c2 :: c :: cs, .swap _ _ _, by rw [List.map_cons, List.map_cons, e1, e2, e3]⟩
      | trans p1 p2 ih1 ih2 =>
        obtain ⟨c1, q1, e1⟩ := ih1 hl
        obtain ⟨c2, q2, e2⟩ := ih2 e1.symm
        exact ⟨c2, q2.trans q1, e2⟩
    obtain ⟨cs, pc, rfl⟩ := key pm
    rw [List.map_map, show ((fun b : V × PyData => b.1) ∘ fun b : V × Dt => (b.1, toPy b.2)) = (·.1) from rfl]
    refine fin_lst f R (iss_of fun b hb => b3 b (pc.mem_iff.mp hb)) (q (cs.map (·.2)) (by rw [← b2]; exact pc.map _) ?_) t nt
    rw [List.pairwise_map] at up ⊢
    exact up⟩
end
/-! displays: cells that stand in them are frozen -/
def frzL : List Rf → List Cl → (List Dt → List Cl → Prop) → Prop
  | [], ce, Q => Q [] ce
  | .d t :: rs, ce, Q => frzL rs ce fun ts ce' => Q (t :: ts) ce'
  | .c k :: rs, ce, Q => match ce[k]? with
    | some (.own ds) => frzL rs (ce.set k (.frz ds)) fun ts ce' => Q (.lst ds :: ts) ce'
    | some (.frz ds) => frzL rs ce fun ts ce' => Q (.lst ds :: ts) ce'
    | _ => False
theorem frz_ok : ∀ {rs : List Rf} {G : Hp} {fr : List (Addr × HO)} {ps : List Addr} {ce : List Cl} {H : Hp} {vs : List V} {Q : List Dt → List Cl → Prop}, Rl G fr ps ce H → RfsOk G ps vs rs → frzL rs ce Q →
    ∃ G' ts ce', Q ts ce' ∧ Up G ps G' ps ∧ Rl G' fr ps ce' H ∧ Iss G' vs ts
  | [], G, fr, ps, ce, H, vs, Q, R, h, q => by
    cases h
    exact ⟨G, [], ce, q, .rfl', R, .nil⟩
  | .d t :: rs, G, fr, ps, ce, H, vs, Q, R, h, q => by
    cases h with
    | cons h1 h2 =>
      obtain ⟨G', ts, ce', q', u, R', hx⟩ := frz_ok R h2 q
      exact ⟨G', t :: ts, ce', q', u, R', .cons (Is.ex h1 u.ex) hx⟩
  | .c k :: rs, G, fr, ps, ce, H, vs, Q, R, h, q => by
    cases h with
    | cons h1 h2 =>
      obtain ⟨p, rfl, hp⟩ := h1
      unfold frzL at q
      split at q
      · rename_i ds e
        obtain ⟨G1, e1, R1, hd⟩ := R.freeze hp e
        have u1 : Up G ps G1 ps := ⟨e1, List.prefix_rfl⟩
        obtain ⟨G', ts, ce', q', u, R', hx⟩ := frz_ok R1 (h2.up u1) q
        exact ⟨G', .lst ds :: ts, ce', q', u1.trans u, R', .cons (hd.ex u.ex) hx⟩
      · rename_i ds e
        obtain ⟨xs, a, b⟩ := R.ce k p _ hp e
        obtain ⟨G', ts, ce', q', u, R', hx⟩ := frz_ok R h2 q
        exact ⟨G', .lst ds :: ts, ce', q', u, R', .cons ((b.mkL a).ex u.ex) hx⟩
      · exact q.elim
def frz1 (r : Rf) (ce : List Cl) (Q : Dt → List Cl → Prop) : Prop := match r with
  | .d t => Q t ce
  | .c k => match ce[k]? with
    | some (.own ds) => Q (.lst ds) (ce.set k (.frz ds))
    | some (.frz ds) => Q (.lst ds) ce
    | _ => False
theorem frz_one {r : Rf} {G : Hp} {fr : List (Addr × HO)} {ps : List Addr} {ce : List Cl} {H : Hp} {v : V} {Q : Dt → List Cl → Prop} (R : Rl G fr ps ce H) (o : RfOk G ps v r) (q : frz1 r ce Q) : ∃ G' t ce', Q t ce' ∧ Up G ps G' ps ∧ Rl G' fr ps ce' H ∧ Is G' v t := by
  cases r with
  | d t => exact ⟨G, t, ce, q, .rfl', R, o⟩
  | c k =>
    obtain ⟨p, rfl, hp⟩ := o
    unfold frz1 at q
    dsimp only at q
    split at q
    · rename_i ds e
      obtain ⟨G1, e1, R1, hd⟩ := R.freeze hp e
      exact ⟨G1, _, _, q, ⟨e1, List.prefix_rfl⟩, R1, hd⟩
    · rename_i ds e
      obtain ⟨xs, a, b⟩ := R.ce k p _ hp e
      exact ⟨G, _, ce, q, .rfl', R, b.mkL a⟩
    · exact q.elim
def tupE (dl : XA) : XE := fun s Q => dl s fun rs ce => Nat.ble rs.length 100000 = true ∧ frzL rs ce fun ts ce' => Q (.d (.tup ts)) ce'
def lstE (dl : XA) : XE := fun s Q => dl s fun rs ce => Nat.ble rs.length 100000 = true ∧ frzL rs ce fun ts ce' => Q (.c ce'.length) (ce' ++ [.own ts])
section
variable {ι : Type} {F : ι → Cx} {K : PySem.W.Frag} {a b e : Expr} {es : List Expr} {pos p : Pos} {da db : XE} {dl : XA}
theorem de_tup {x1} (h : DA F es dl) : DE F (.Tuple es x1 pos) (tupE dl) := by
  obtain ⟨t, p, sa⟩ := h
  refine ⟨_, fun j => pe_tup (p j), fun G fr ps s σ H Q Qd R L h f => sa G fr ps s σ H _ _ R L h fun rs ce1 G1 ps1 H1 vs q1 u1 R1 v1 => ?_⟩
  obtain ⟨G2, ts, ce2, q2, u2, R2, hx⟩ := frz_ok R1 v1 q1.2
  exact ⟨sz (by rw [v1.len]; exact Nat.le_of_ble_eq_true q1.1), fin_tup (f.up (u1.trans u2)) R2 hx q2⟩
theorem de_lst (h : DA F es dl) : DE F (.List es pos) (lstE dl) := by
  obtain ⟨t, p, sa⟩ := h
  refine ⟨_, fun j => pe_lst (p j), fun G fr ps s σ H Q Qd R L h f => sa G fr ps s σ H _ _ R L h fun rs ce1 G1 ps1 H1 vs q1 u1 R1 v1 => ?_⟩
  obtain ⟨G2, ts, ce2, q2, u2, R2, hx⟩ := frz_ok R1 v1 q1.2
  exact ⟨sz (by rw [v1.len]; exact Nat.le_of_ble_eq_true q1.1), fin_lst (f.up (u1.trans u2)) R2 hx q2⟩
/-! parts -/
def ixD : XO := fun a b ce Q => ∃ ds i t, b = .d (.int i) ∧ itemsOf ce a = some ds ∧ atI ds i = some t ∧ Q (.d t) ce
theorem iss_at {H : Hp} {xs : List V} {ds : List Dt} {i : Int} {t : Dt} (h : Iss H xs ds) (e : atI ds i = some t) : ∃ v, atI xs i = some v ∧ Is H v t := by
  unfold atI at e ⊢
  rw [← h.1] at e
  cases hj : ixN xs.length i with
  | none => rw [hj] at e; cases e
  | some j =>
    rw [hj] at e
    obtain ⟨v, hv, hi⟩ := h.get (show ds[j]? = some t from e)
    exact ⟨v, hv, hi⟩
theorem de_ix (ha : DE F a da) (hb : DE F b db) (hs : PlainIx b) (hK : ∀ i, (F i).K = K := by intro _; rfl) : DE F (.Subscript a b pos) (opD ixD da db) := by
  obtain ⟨t, p, sa⟩ := ha
  obtain ⟨u, q, sb⟩ := hb
  refine ⟨_, fun j => pe_ix (ix_any (K := K) (hK j)) (p j) (q j) hs, .op (fun G fr ps ce H x y a b Q Qd R ra rb q f => ?_) sa sb⟩
  obtain ⟨ds, i, t, rfl, h1, h2, q⟩ := q
  cases rb
  obtain ⟨p, xs, rfl, hx, h3⟩ := items_seq (K := K) R ra h1
  obtain ⟨v, hv, hi⟩ := iss_at h3 h2
  exact hx.imp (fun hx => ⟨p, xs, i, v, rfl, rfl, hx, hv, fin_d f R hi q⟩) (fun hx => ⟨p, xs, i, v, rfl, rfl, hx, hv, fin_d f R hi q⟩)
abbrev XP := Ds → (Option Int → List Cl → Prop) → Prop
def SPp (t : L2.TO) (e : XP) : Prop := ∀ G fr ps (s : Ds) σ H Q Qd, Rl G fr ps s.ce H → SlOk G ps s.sl σ → e s Qd → FinW (fun _ _ (b : Option Int) (c : Option Int) => b = c) G fr ps Qd Q → t σ H Q
def DP {ι : Type} (F : ι → Cx) (e : Option Expr) (d : XP) : Prop := ∃ t, (∀ i, PO (F i) e t) ∧ SPp t d
def noP : XP := fun s Q => Q none s.ce
def someP (e : XE) : XP := fun s Q => e s fun r ce => match r with
  | .d (.int i) => Q (some i) ce
  | _ => False
theorem dp_none : DP F none noP := ⟨_, fun _ => po_none, fun G fr ps s σ H Q Qd R L q f => f _ _ G ps H _ q .rfl' R rfl⟩
theorem dp_some (h : DE F e da) : DP F (some e) (someP da) := by
  obtain ⟨t, p, sa⟩ := h
  refine ⟨_, fun j => po_some (p j), fun G fr ps s σ H Q Qd R L h f => sa G fr ps s σ H _ _ R L h fun r ce1 G1 ps1 H1 v q u R1 k => ?_⟩
  split at q
  · cases k
    exact ⟨_, rfl, f _ _ G1 ps1 H1 _ q u R1 rfl⟩
  · exact q.elim
def cutL {α : Type} (xs : List α) (lo hi : Option Int) : List α := (xs.drop (HT.sIx xs.length 0 lo)).take (HT.sIx xs.length xs.length hi - HT.sIx xs.length 0 lo)
theorem iss_cut {H : Hp} {xs : List V} {ds : List Dt} (h : Iss H xs ds) (lo hi : Option Int) : Iss H (cutV xs lo hi) (cutL ds lo hi) := by
  unfold cutL cutV
  rw [h.1]
  exact (h.drop _).take _
def slD (e : XE) (l h : XP) : XE := fun s Q => e s fun a ce => l ⟨s.sl, ce⟩ fun lo ce1 => h ⟨s.sl, ce1⟩ fun hi ce2 => match a with
  | .d (.tup ds) => Q (.d (.tup (cutL ds lo hi))) ce2
  | _ => ∃ ds, lstOf ce2 a = some ds ∧ Q (.c ce2.length) (ce2 ++ [.own (cutL ds lo hi)])
theorem de_slice {lo hi : Option Expr} {p2 : Pos} {dlo dhi : XP} (he : DE F e da) (hl : DP F lo dlo) (hh : DP F hi dhi) (hK : ∀ i, (F i).K = K := by intro _; rfl) : DE F (.Subscript e (.Slice lo hi none p2) pos) (slD da dlo dhi) := by
  obtain ⟨t, p, sa⟩ := he
  obtain ⟨tl, pl, sl⟩ := hl
  obtain ⟨th, ph, sh⟩ := hh
  refine ⟨_, fun j => pe_slice (r := fun x lo hi H Q => rSlL K x lo hi H Q ∨ rSlA K x lo hi H Q) (by have := hK j; subst this; exact SlR.or sl_list sl_tupA) (p j) (pl j) (ph j), fun G fr ps s σ H Q Qd R L h f => ?_⟩
  refine sa G fr ps s σ H _ _ R L h fun a ce1 G1 ps1 H1 v q1 u1 R1 v1 => ?_
  refine sl G1 fr ps1 ⟨s.sl, ce1⟩ σ H1 _ _ R1 (L.up u1) q1 fun lo ce2 G2 ps2 H2 lo' q2 u2 R2 k2 => ?_
  obtain rfl : lo' = lo := k2
  refine sh G2 fr ps2 ⟨s.sl, ce2⟩ σ H2 _ _ R2 (L.up (u1.trans u2)) q2 fun hi ce3 G3 ps3 H3 hi' q3 u3 R3 k3 => ?_
  obtain rfl : hi' = hi := k3
  have v3 := v1.up (u2.trans u3)
  have f3 := f.up ((u1.trans u2).trans u3)
  split at q3
  · obtain ⟨p, xs, rfl, h1, h2⟩ := Is.inT v3
    refine .inr ⟨p, xs, rfl, Evl.st_of (R3.ex _ _ h1), fun hw => ?_, fun _ => fin_tup f3 R3 (iss_cut h2 _ _) q3⟩
    rename_i ds
    have : cutL ds lo' hi' = ds := by
      unfold cutL
      rw [← h2.1, hw.1, hw.2, List.drop_zero, Nat.sub_zero, h2.1, List.take_length]
    rw [this] at q3
    exact fin_d f3 R3 (h2.mkT h1) q3
  · obtain ⟨ds, e1, q3⟩ := q3
    obtain ⟨p, xs, rfl, h1, h2⟩ := lst_at R3 v3 e1
    exact .inl ⟨p, xs, rfl, Evl.sq_of h1, fin_lst f3 R3 (iss_cut h2 _ _) q3⟩
def negD : Rf → List Cl → XQ → Prop := fun a ce Q => match a with
  | .d (.int i) => Q (.d (.int (-i))) ce
  | _ => False
theorem de_neg (ha : DE F a da) : DE F (.UnaryOp .USub a pos) (unD negD da) := by
  obtain ⟨t, p, sa⟩ := ha
  refine ⟨_, fun j => pe_un un_neg (p j), fun G fr ps s σ H Q Qd R L h f => sa G fr ps s σ H _ _ R L h fun r ce1 G1 ps1 H1 v q u R1 k => ?_⟩
  unfold negD at q
  split at q
  · cases k
    exact ⟨_, rfl, f _ _ G1 ps1 H1 _ q u R1 (.int _)⟩
  · exact q.elim
/-! range as a list, as a tuple -/
abbrev XR := Ds → (Int → Int → List Cl → Prop) → Prop
def SRg (t : L2.St → Hp → (Int → Int → Hp → Prop) → Prop) (e : XR) : Prop := ∀ G fr ps (s : Ds) σ H (Q : Int → Int → Hp → Prop) (Qd : Int → Int → List Cl → Prop), Rl G fr ps s.ce H → SlOk G ps s.sl σ → e s Qd →
  (∀ i j ce G' ps' H, Qd i j ce → Up G ps G' ps' → Rl G' fr ps' ce H → Q i j H) → t σ H Q
def DR {ι : Type} (F : ι → Cx) (e : Expr) (d : XR) : Prop := ∃ t, (∀ i, PRg (F i) e t) ∧ SRg t d
def rg1 (e : XE) : XR := fun s Q => e s fun r ce => match r with
  | .d (.int n) => Q 0 n ce
  | _ => False
def rg2 (e u : XE) : XR := fun s Q => e s fun r ce => u ⟨s.sl, ce⟩ fun r2 ce2 => match r, r2 with
  | .d (.int n), .d (.int m) => Q n m ce2
  | _, _ => False
theorem dr_1 (hg : ∀ j, Gl (F j) "range") (hm : ∀ j, (F j).mg "range" = none) (ha : DE F a da) (na : ∀ j, starEach [a] (F j).env = (false, eval a (F j).env) :: starEach [] (F j).env := by intro _; rfl) : DR F (.Call (.Name "range" p) [a] [] pos) (rg1 da) := by
  obtain ⟨t, q, sa⟩ := ha
  refine ⟨_, fun j => prg_1 (hg j) (hm j) (q j) (na j), fun G fr ps s σ H Q Qd R L h f => sa G fr ps s σ H _ _ R L h fun r ce1 G1 ps1 H1 v q u R1 k => ?_⟩
  split at q
  · cases k
    exact ⟨_, rfl, f _ _ _ G1 ps1 H1 q u R1⟩
  · exact q.elim
theorem dr_2 (hg : ∀ j, Gl (F j) "range") (hm : ∀ j, (F j).mg "range" = none) (ha : DE F a da) (hb : DE F b db) (na : ∀ j, starEach [a, b] (F j).env = (false, eval a (F j).env) :: starEach [b] (F j).env := by intro _; rfl)
    (nb : ∀ j, starEach [b] (F j).env = (false, eval b (F j).env) :: starEach [] (F j).env := by intro _; rfl) (hp : ∀ j, (backTo pos (starEach [b] (F j).env)).any (·.1) = false := by intro _; rfl) : DR F (.Call (.Name "range" p) [a, b] [] pos) (rg2 da db) := by
  obtain ⟨t, q, sa⟩ := ha
  obtain ⟨u, q', sb⟩ := hb
  refine ⟨_, fun j => prg_2 (hg j) (hm j) (q j) (q' j) (na j) (nb j) (hp j), fun G fr ps s σ H Q Qd R L h f => sa G fr ps s σ H _ _ R L h fun r ce1 G1 ps1 H1 v q u1 R1 k => ?_⟩
  refine sb G1 fr ps1 ⟨s.sl, ce1⟩ σ H1 _ _ R1 (L.up u1) q fun r2 ce2 G2 ps2 H2 w q2 u2 R2 k2 => ?_
  split at q2
  · cases k
    cases k2
    exact ⟨_, _, rfl, rfl, f _ _ _ G2 ps2 H2 q2 (u1.trans u2) R2⟩
  · exact q2.elim
def rgI (a b : Int) : List Int := (List.range (b - a).toNat).map fun i => a + (i : Nat)
theorem rgV_rgI (a b : Int) : rgV a b = (rgI a b).map V.int := by
  unfold rgV rgI
  rw [List.map_map]
  rfl
def lisR (d : XR) : XE := fun s Q => d s fun i j ce => RgOk i j ∧ Q (.c ce.length) (ce ++ [.own ((rgI i j).map .int)])
def tupR (d : XR) : XE := fun s Q => d s fun i j ce => RgOk i j ∧ Q (.d (.tup ((rgI i j).map .int))) ce
theorem de_listR {d : XR} (hc : ∀ j, (F j).calm = true) (hg : ∀ j, Gl (F j) "list") (hm : ∀ j, (F j).mg "list" = none) (h : DR F e d) (na : ∀ j, starEach [e] (F j).env = (false, eval e (F j).env) :: starEach [] (F j).env := by intro _; rfl) : DE F (.Call (.Name "list" p) [e] [] pos) (lisR d) := by
  obtain ⟨t, q, sa⟩ := h
  refine ⟨_, fun j => pe_listRg (hc j) (hg j) (hm j) (q j) (na j), fun G fr ps s σ H Q Qd R L h f => sa G fr ps s σ H _ _ R L h fun i j ce1 G1 ps1 H1 q u R1 => ⟨q.1, ?_⟩⟩
  rw [rgV_rgI]
  exact fin_lst (f.up u) R1 (iss_ints _ _) q.2
theorem de_tupR {d : XR} (hc : ∀ j, (F j).calm = true) (hg : ∀ j, Gl (F j) "tuple") (hm : ∀ j, (F j).mg "tuple" = none) (h : DR F e d) (na : ∀ j, starEach [e] (F j).env = (false, eval e (F j).env) :: starEach [] (F j).env := by intro _; rfl) : DE F (.Call (.Name "tuple" p) [e] [] pos) (tupR d) := by
  obtain ⟨t, q, sa⟩ := h
  refine ⟨_, fun j => pe_tupRg (hc j) (hg j) (hm j) (q j) (na j), fun G fr ps s σ H Q Qd R L h f => sa G fr ps s σ H _ _ R L h fun i j ce1 G1 ps1 H1 q u R1 => ⟨q.1, ?_⟩⟩
  rw [rgV_rgI]
  exact fin_tup (f.up u) R1 (iss_ints _ _) q.2
/-! methods of lists -/
def metD (r : Rf → List Rf → List Cl → XQ → Prop) (a : XE) (l : XA) : XE := fun s Q => a s fun x ce => (∃ ds, lstOf ce x = some ds) ∧ l ⟨s.sl, ce⟩ fun xs ce2 => r x xs ce2 Q
def SM (r : V → List V → Hp → VK → Prop) (d : Rf → List Rf → List Cl → XQ → Prop) : Prop := ∀ G fr ps ce H x xs a as Q Qd, Rl G fr ps ce H → RfOk G ps x a → RfsOk G ps xs as → d a as ce Qd → Fin' G fr ps Qd Q → r x xs H Q
theorem SE.met {r : V → List V → Hp → VK → Prop} {d : Rf → List Rf → List Cl → XQ → Prop} {ta : TE} {t : TA} (sm : SM r d) (sa : SE ta da) (sl : SA t dl) : SE (tBM K "list" r ta t) (metD d da dl) := fun G fr ps s σ H Q Qd R L h f => by
  refine sa G fr ps s σ H _ _ R L h fun x ce1 G1 ps1 H1 v q1 u1 R1 v1 => ?_
  obtain ⟨⟨ds, hd⟩, q1⟩ := q1
  obtain ⟨p, xs, rfl, h1, _⟩ := lst_at R1 v1 hd
  refine ⟨.inl ⟨rfl, _, Evl.sq_of h1⟩, sl G1 fr ps1 ⟨s.sl, ce1⟩ σ H1 _ _ R1 (L.up u1) q1 fun as ce2 G2 ps2 H2 vs q2 u2 R2 v2 => ?_⟩
  exact sm G2 fr ps2 ce2 H2 _ vs x as _ _ R2 (v1.up u2) v2 q2 (f.up (u1.trans u2))
theorem own_at {G H : Hp} {fr : List (Addr × HO)} {ps : List Addr} {ce : List Cl} {v : V} {k : Nat} {ds : List Dt} (R : Rl G fr ps ce H) (hr : RfOk G ps v (.c k)) (h : ce[k]? = some (.own ds)) : ∃ p xs, v = .ref p ∧ ps[k]? = some p ∧ H p = some (.lst xs) ∧ Iss G xs ds := by
  obtain ⟨p, e, hp⟩ := hr
  obtain ⟨_, xs, a, b⟩ := R.ce k p _ hp h
  exact ⟨p, xs, e, hp, a, b⟩
/-- a cell changes -/
theorem fin_put {G H : Hp} {fr : List (Addr × HO)} {ps : List Addr} {ce : List Cl} {k : Nat} {ds ds' : List Dt} {p : Addr} {xs : List V} {Qd : XQ} {Q : VK} {v : V} {t : Dt} (f : Fin' G fr ps Qd Q) (R : Rl G fr ps ce H) (hp : ps[k]? = some p) (hc : ce[k]? = some (.own ds)) (hx : Iss G xs ds') (ht : Is G v t) (q : Qd (.d t) (ce.set k (.own ds'))) : Q v (upd H p (.lst xs)) :=
  f _ _ G ps _ v q .rfl' (R.put hp hc hx) ht
def appD : Rf → List Rf → List Cl → XQ → Prop := fun x xs ce Q => ∃ k r ds, x = .c k ∧ xs = [r] ∧ frz1 r ce fun t ce' => ce'[k]? = some (.own ds) ∧ ds.length < 100000 ∧ Q (.d .non) (ce'.set k (.own (ds ++ [t])))
theorem sm_app : SM rAppend appD := fun G fr ps ce H x xs a as Q Qd R ra rs q f => by
  obtain ⟨k, r, ds, rfl, rfl, q⟩ := q
  cases rs with
  | cons h1 t =>
    cases t
    obtain ⟨G2, t, ce2, ⟨hc, l, q⟩, u, R2, hx⟩ := frz_one R h1 q
    obtain ⟨p, ys, rfl, hp, h, hy⟩ := own_at R2 (ra.up u) hc
    exact ⟨p, ys, _, rfl, rfl, h, szl (by rw [hy.1]; exact l), fin_put (f.up u) R2 hp hc (hy.snoc hx) .non q⟩
def insD : Rf → List Rf → List Cl → XQ → Prop := fun x xs ce Q => ∃ k i r ds, x = .c k ∧ xs = [.d (.int i), r] ∧ frz1 r ce fun t ce' => ce'[k]? = some (.own ds) ∧ ds.length < 100000 ∧ 0 ≤ i ∧ i < 2 ^ 63 ∧ Q (.d .non) (ce'.set k (.own (ds.take i.toNat ++ [t] ++ ds.drop i.toNat)))
theorem sm_ins : SM (fun x vs H Q => ∃ (l : Addr) (xs : List V) (i : Int) (y : V), x = .ref l ∧ vs = [.int i, y] ∧ H l = some (.lst xs) ∧ xs.length < sizeLine ∧ 0 ≤ i ∧ i < 2 ^ 63 ∧ Q .non (upd H l (.lst (xs.take i.toNat ++ [y] ++ xs.drop i.toNat)))) insD := fun G fr ps ce H x xs a as Q Qd R ra rs q f => by
  obtain ⟨k, i, r, ds, rfl, rfl, q⟩ := q
  cases rs with
  | cons h1 t =>
    cases h1
    cases t with
    | cons h2 t =>
      cases t
      obtain ⟨G2, t, ce2, ⟨hc, l, i0, i1, q⟩, u, R2, hx⟩ := frz_one R h2 q
      obtain ⟨p, ys, rfl, hp, h, hy⟩ := own_at R2 (ra.up u) hc
      exact ⟨p, ys, i, _, rfl, rfl, h, szl (by rw [hy.1]; exact l), i0, i1, fin_put (f.up u) R2 hp hc (((hy.take _).snoc hx).append (hy.drop _)) .non q⟩
def popD : Rf → List Rf → List Cl → XQ → Prop := fun x xs ce Q => ∃ k i j t ds, x = .c k ∧ xs = [.d (.int i)] ∧ ce[k]? = some (.own ds) ∧ -(2 ^ 63) ≤ i ∧ i < 2 ^ 63 ∧ seqIndex? i ds.length = some j ∧ ds[j]? = some t ∧ Q (.d t) (ce.set k (.own (ds.eraseIdx j)))
theorem iss_erase {H : Hp} {xs : List V} {ds : List Dt} (h : Iss H xs ds) (i : Nat) : Iss H (xs.eraseIdx i) (ds.eraseIdx i) := by
  rw [List.eraseIdx_eq_take_drop_succ, List.eraseIdx_eq_take_drop_succ]
  exact (h.take _).append (h.drop _)
theorem sm_pop : SM rPopAt popD := fun G fr ps ce H x xs a as Q Qd R ra rs q f => by
  obtain ⟨k, i, j, t, ds, rfl, rfl, hc, i0, i1, hj, ht, q⟩ := q
  cases rs with
  | cons h1 t' =>
    cases h1
    cases t'
    obtain ⟨p, ys, rfl, hp, h, hy⟩ := own_at R ra hc
    obtain ⟨v, hv, hi⟩ := hy.get ht
    exact ⟨p, ys, i, j, v, rfl, rfl, h, i0, i1, by rw [hy.1]; exact hj, hv, fin_put f R hp hc (iss_erase hy j) hi q⟩
def clrD : Rf → List Rf → List Cl → XQ → Prop := fun x xs ce Q => ∃ k ds, x = .c k ∧ ce[k]? = some (.own ds) ∧ Q (.d .non) (ce.set k (.own []))
def extD : Rf → List Rf → List Cl → XQ → Prop := fun x xs ce Q => ∃ k r ds es, x = .c k ∧ xs = [r] ∧ ce[k]? = some (.own ds) ∧ lstOf ce r = some es ∧ ds.length + es.length ≤ 100000 ∧ Q (.d .non) (ce.set k (.own (ds ++ es)))
theorem sm_ext : SM rExtend extD := fun G fr ps ce H x xs a as Q Qd R ra rs q f => by
  obtain ⟨k, r, ds, es, rfl, rfl, hc, he, l, q⟩ := q
  cases rs with
  | cons h1 t' =>
    cases t'
    obtain ⟨p, ys, rfl, hp, h, hy⟩ := own_at R ra hc
    obtain ⟨p', zs, rfl, h', hz⟩ := lst_at R h1 he
    exact ⟨p, p', ys, zs, rfl, rfl, h, h', sz (by rw [hy.1, hz.1]; exact l), fin_put f R hp hc (hy.append hz) .non q⟩
variable {apos cpos : Pos} {o : Expr} {do_ : XE}
theorem de_met {name : Str} {id : String} {r : V → List V → Hp → VK → Prop} {d : Rf → List Rf → List Cl → XQ → Prop} (pa : PlainAttrs "list") (slot : Slot "list" name id) (hty : typeOf (.builtin id) = pure (.type "method_descriptor")) (hm : ∀ j, MtR (F j) id r) (sm : SM r d) (ho : DE F o do_) (ha : DA F (e :: es) dl)
    (hbase : ∀ j, attributeBase o name (F j).env (eval o (F j).env) = eval o (F j).env := by intro _; rfl)
    (hfew : ∀ j, ((backTo cpos (starEach (e :: es) (F j).env)).all (fun x => !x.1) && (backToKw cpos (keywordEach [] (F j).env)).all (fun x => x.1.isSome)
      && decide ((e :: es).length + ([] : List Keyword).length + (if ([] : List Keyword).isEmpty then 0 else 1) < 30)) = true := by intro _; rfl)
    (hline : (apos.endLine == cpos.line) = true := by rfl) (hs : ∀ j, starEach (e :: es) (F j).env = (false, eval e (F j).env) :: starEach es (F j).env := by intro _; rfl) (hplain : ∀ j, (backTo cpos (starEach es (F j).env)).any (·.1) = false := by intro _; rfl) (hK : ∀ i, (F i).K = K := by intro _; rfl) :
    DE F (.Call (.Attribute o name apos) (e :: es) [] cpos) (metD d do_ dl) := by
  obtain ⟨t, p, sa⟩ := ho
  obtain ⟨u, q, sl⟩ := ha
  refine ⟨tBM K "list" r t u, fun j => ?_, .met sm sa sl⟩
  have := hK j
  subst this
  exact pe_bm pa slot hty (hm j) (p j) (q j) (hbase j) (hfew j) hline (hs j) (hplain j)
theorem de_app (ho : DE F o do_) (ha : DA F [e] dl) (hbase : ∀ j, attributeBase o "append" (F j).env (eval o (F j).env) = eval o (F j).env := by intro _; rfl) (hfew : ∀ j, ((backTo cpos (starEach [e] (F j).env)).all (fun x => !x.1) && (backToKw cpos (keywordEach [] (F j).env)).all (fun x => x.1.isSome)
      && decide ([e].length + ([] : List Keyword).length + (if ([] : List Keyword).isEmpty then 0 else 1) < 30)) = true := by intro _; rfl) (hline : (apos.endLine == cpos.line) = true := by rfl) (hs : ∀ j, starEach [e] (F j).env = (false, eval e (F j).env) :: starEach [] (F j).env := by intro _; rfl) (hK : ∀ i, (F i).K = K := by intro _; rfl) :
    DE F (.Call (.Attribute o "append" apos) [e] [] cpos) (metD appD do_ dl) := de_met (K := K) PySem.F.plainAttrs_list PySem.F.slot_list_append PySem.F.type_list_append (fun _ => mt_append) sm_app ho ha hbase hfew hline hs (fun _ => rfl) hK
end
end TD
set_option Elab.async false
set_option linter.all false
set_option maxRecDepth 100000
set_option maxHeartbeats 1000000
/-! statements -/
namespace TD
open PySem PySem.Spec PyProof.Rows L2 TW
/-- n0: how many cells stood at the def's start -/
structure Ed where
  nx : Ds → Prop
  rt : XQ
  bk : Ds → Prop := fun _ => False
  ct : Ds → Prop := fun _ => False
  n0 : Nat := 0
abbrev XS := Ed → Ds → Prop
def FinS (G : Hp) (fr : List (Addr × HO)) (ps0 : List Addr) (q : Ds → Prop) (Q : L2.St → Hp → Prop) : Prop := ∀ s G' ps' σ H, q s → Ex G G' → ps0 <+: ps' → Rl G' fr ps' s.ce H → SlOk G' ps' s.sl σ → Q σ H
structure EdOk (G : Hp) (fr : List (Addr × HO)) (ps0 : List Addr) (E : Ed) (D : Ends) : Prop where
  nx : FinS G fr ps0 E.nx D.nx
  rt : ∀ r ce G' ps' H v, E.rt r ce → Ex G G' → ps0 <+: ps' → Rl G' fr ps' ce H → RfOk G' ps' v r → D.rt v H
  bk : FinS G fr ps0 E.bk D.bk
  ct : FinS G fr ps0 E.ct D.ct
  n0 : E.n0 = ps0.length
def SS (t : TS) (x : XS) : Prop := ∀ G fr ps0 ps (s : Ds) σ H E D, ps0 <+: ps → Rl G fr ps s.ce H → SlOk G ps s.sl σ → x E s → EdOk G fr ps0 E D → t D σ H
def DS {ι : Type} (F : ι → Cx) (st : Stmt) (x : XS) : Prop := ∃ t, (∀ i, PS (F i) st t) ∧ SS t x
def DSs {ι : Type} (F : ι → Cx) (sts : List Stmt) (x : XS) : Prop := ∃ t, (∀ i, PSs (F i) sts t) ∧ SS t x
theorem FinS.up {G G' : Hp} {fr : List (Addr × HO)} {ps0 : List Addr} {q : Ds → Prop} {Q : L2.St → Hp → Prop} (f : FinS G fr ps0 q Q) (e : Ex G G') : FinS G' fr ps0 q Q := fun s G2 ps2 σ H h e2 p R L => f s G2 ps2 σ H h (e.trans e2) p R L
theorem EdOk.up {G G' : Hp} {fr : List (Addr × HO)} {ps0 : List Addr} {E : Ed} {D : Ends} (k : EdOk G fr ps0 E D) (e : Ex G G') : EdOk G' fr ps0 E D := ⟨k.nx.up e, fun r ce G2 ps2 H v h e2 p R o => k.rt r ce G2 ps2 H v h (e.trans e2) p R o, k.bk.up e, k.ct.up e, k.n0⟩
/-- an expression within a statement -/
theorem SE.st {t : TE} {d : XE} (sa : SE t d) {G fr ps0 ps} {s : Ds} {σ H} {Q : VK} {Qd : XQ} (hp : ps0 <+: ps) (R : Rl G fr ps s.ce H) (L : SlOk G ps s.sl σ) (h : d s Qd)
    (f : ∀ r ce G' ps' H' v, Qd r ce → Ex G G' → ps0 <+: ps' → Rl G' fr ps' ce H' → SlOk G' ps' s.sl σ → RfOk G' ps' v r → Q v H') : t σ H Q :=
  sa G fr ps s σ H _ _ R L h fun r ce G' ps' H' v q u R' k => f r ce G' ps' H' v q u.ex (hp.trans u.pre) R' (L.up u) k
theorem ST.st {t : TT} {d : XT} (sa : ST t d) {G fr ps0 ps} {s : Ds} {σ H} {Q : Bool → Hp → Prop} {Qd : Bool → List Cl → Prop} (hp : ps0 <+: ps) (R : Rl G fr ps s.ce H) (L : SlOk G ps s.sl σ) (h : d s Qd)
    (f : ∀ b ce G' ps' H', Qd b ce → Ex G G' → ps0 <+: ps' → Rl G' fr ps' ce H' → SlOk G' ps' s.sl σ → Q b H') : t σ H Q :=
  sa G fr ps s σ H _ _ R L h fun b ce G' ps' H' v q u R' k => by
    obtain rfl : v = b := k
    exact f _ ce G' ps' H' q u.ex (hp.trans u.pre) R' (L.up u)
def nextD : XS := fun E s => E.nx s
def seqD (x y : XS) : XS := fun E s => x { E with nx := y E } s
def retD (e : XE) : XS := fun E s => e s E.rt
def retN : XS := fun E s => E.rt (.d .non) s.ce
def dropD (e : XE) : XS := fun E s => e s fun _ ce => E.nx ⟨s.sl, ce⟩
def ifS (c : XT) (x y : XS) : XS := fun E s => c s fun b ce => if b = true then x E ⟨s.sl, ce⟩ else y E ⟨s.sl, ce⟩
def nevD : XS := fun _ _ => False
def brkD : XS := fun E s => E.bk s
def cntD : XS := fun E s => E.ct s
section
variable {ι : Type} {F : ι → Cx} {K : PySem.W.Frag} {a b c e : Expr} {st : Stmt} {sts rest : List Stmt} {pos : Pos} {da db : XE} {dC : XT} {x y : XS}
theorem dss_nil : DSs F [] nextD := ⟨_, fun _ => pss_nil, fun G fr ps0 ps s σ H E D hp R L h k => k.nx s G ps σ H h Ex.rfl' hp R L⟩
theorem SS.seq {t u : TS} (sx : SS t x) (sy : SS u y) : SS (tSeq t u) (seqD x y) := fun G fr ps0 ps s σ H E D hp R L h k => by
  refine sx G fr ps0 ps s σ H _ _ hp R L h ⟨fun s1 G1 ps1 σ1 H1 q e1 p1 R1 L1 => ?_, k.rt, k.bk, k.ct, k.n0⟩
  exact sy G1 fr ps0 ps1 s1 σ1 H1 E D p1 R1 L1 q (k.up e1)
theorem dss_cons (h1 : DS F st x) (h2 : DSs F rest y) : DSs F (st :: rest) (seqD x y) := by
  obtain ⟨t, p, sx⟩ := h1
  obtain ⟨u, q, sy⟩ := h2
  exact ⟨_, fun j => pss_cons (p j) (q j), sx.seq sy⟩
theorem dss_one (h1 : DS F st x) : DSs F [st] x := by
  obtain ⟨t, p, sx⟩ := h1
  exact ⟨_, fun j => pss_one (p j), sx⟩
theorem ds_ret (h : DE F e da) : DS F (.Return (some e) pos) (retD da) := by
  obtain ⟨t, p, sa⟩ := h
  exact ⟨_, fun j => ps_ret (p j), fun G fr ps0 ps s σ H E D hp R L h k => sa.st hp R L h fun r ce G' ps' H' v q e' p' R' _ o => k.rt r ce G' ps' H' v q e' p' R' o⟩
theorem ds_expr (h : DE F e da) (hs : ∀ j, swapsWith e none pos.line (F j).env = pure false := by intro _; rfl) : DS F (.Expr e pos) (dropD da) := by
  obtain ⟨t, p, sa⟩ := h
  exact ⟨_, fun j => ps_expr (p j) (hs j), fun G fr ps0 ps s σ H E D hp R L h k => sa.st hp R L h fun r ce G' ps' H' v q e' p' R' L' _ => k.nx _ G' ps' σ H' q e' p' R' L'⟩
theorem ds_if (hc : DT F c dC) (ha : DSs F sts x) (hb : DSs F rest y) : DS F (.If c sts rest pos) (ifS dC x y) := by
  obtain ⟨t, p, sc⟩ := hc
  obtain ⟨u, q, sx⟩ := ha
  obtain ⟨w, r, sy⟩ := hb
  refine ⟨_, fun j => ps_if (p j) (q j) (r j), fun G fr ps0 ps s σ H E D hp R L h k => sc.st hp R L h fun b ce G' ps' H' q' e' p' R' L' => ?_⟩
  cases b with
  | true => exact sx G' fr ps0 ps' ⟨s.sl, ce⟩ σ H' E D p' R' L' q' (k.up e')
  | false => exact sy G' fr ps0 ps' ⟨s.sl, ce⟩ σ H' E D p' R' L' q' (k.up e')
theorem ds_never : DS F st nevD := ⟨_, fun _ => ps_never, fun G fr ps0 ps s σ H E D hp R L h k => h.elim⟩
theorem ds_pass : DS F (.Pass pos) nextD := ⟨_, fun _ => ps_pass, fun G fr ps0 ps s σ H E D hp R L h k => k.nx s G ps σ H h Ex.rfl' hp R L⟩
theorem ds_break : DS F (.Break pos) brkD := ⟨_, fun _ => ps_break, fun G fr ps0 ps s σ H E D hp R L h k => k.bk s G ps σ H h Ex.rfl' hp R L⟩
theorem ds_cont : DS F (.Continue pos) cntD := ⟨_, fun _ => ps_continue, fun G fr ps0 ps s σ H E D hp R L h k => k.ct s G ps σ H h Ex.rfl' hp R L⟩
end
/-! ways that go on alike: what holds behind them -/
def joinT (t : XT) : XT := fun s Q => ∃ M : Bool → List Cl → Prop, t s M ∧ ∀ b ce, M b ce → Q b ce
def joinE (t : XE) : XE := fun s Q => ∃ M : Rf → List Cl → Prop, t s M ∧ ∀ r ce, M r ce → Q r ce
def joinS (x : XS) : XS := fun E s => ∃ M : Ds → Prop, x { E with nx := M } s ∧ ∀ s', M s' → E.nx s'
section
variable {ι : Type} {F : ι → Cx} {e : Expr} {st : Stmt} {d : XE} {t : XT} {x : XS}
theorem dt_J (h : DT F e t) : DT F e (joinT t) := by
  obtain ⟨u, p, s⟩ := h
  exact ⟨u, p, fun G fr ps st σ H Q Qd R L ⟨M, h, k⟩ f => s G fr ps st σ H Q M R L h fun r ce G' ps' H' v q => f r ce G' ps' H' v (k r ce q)⟩
theorem de_J (h : DE F e d) : DE F e (joinE d) := by
  obtain ⟨u, p, s⟩ := h
  exact ⟨u, p, fun G fr ps st σ H Q Qd R L ⟨M, h, k⟩ f => s G fr ps st σ H Q M R L h fun r ce G' ps' H' v q => f r ce G' ps' H' v (k r ce q)⟩
theorem ds_J (h : DS F st x) : DS F st (joinS x) := by
  obtain ⟨u, p, s⟩ := h
  exact ⟨u, p, fun G fr ps0 ps st σ H E D hp R L ⟨M, h, k⟩ f => s G fr ps0 ps st σ H { E with nx := M } D hp R L h ⟨fun s' G' ps' σ' H' q => f.nx s' G' ps' σ' H' (k s' q), f.rt, f.bk, f.ct, f.n0⟩⟩
end
/-! targets -/
abbrev XG := Rf → Ds → (Ds → Prop) → Prop
abbrev XGs := List Dt → Ds → (Ds → Prop) → Prop
def SG (t : L2.TG) (x : XG) : Prop := ∀ G fr ps0 ps (s : Ds) σ H v r Q Qd, ps0 <+: ps → Rl G fr ps s.ce H → SlOk G ps s.sl σ → RfOk G ps v r → x r s Qd → FinS G fr ps0 Qd Q → t v σ H Q
def SGs (t : TGs) (x : XGs) : Prop := ∀ G fr ps0 ps (s : Ds) σ H vs ts Q Qd, ps0 <+: ps → Rl G fr ps s.ce H → SlOk G ps s.sl σ → Iss G vs ts → x ts s Qd → FinS G fr ps0 Qd Q → t vs σ H Q
def DG {ι : Type} (F : ι → Cx) (e : Expr) (x : XG) : Prop := ∃ t, (∀ i, PG (F i) e t) ∧ SG t x
def DGs {ι : Type} (F : ι → Cx) (es : List Expr) (x : XGs) : Prop := ∃ t, (∀ i, PGs (F i) es t) ∧ SGs t x
def nameD (i : Nat) : XG := fun r s Q => Q ⟨s.sl.set i (some r), s.ce⟩
def nilG : XGs := fun ts s Q => match ts with
  | [] => Q s
  | _ => False
def consG (x : XG) (y : XGs) : XGs := fun ts s Q => match ts with
  | t :: r => x (.d t) s fun s' => y r s' Q
  | [] => False
def tupG (n : Nat) (x : XGs) : XG := fun r s Q => match r with
  | .d (.tup ts) => ts.length = n ∧ x ts s Q
  | _ => False
section
variable {ι : Type} {F : ι → Cx} {K : PySem.W.Frag} {e o i : Expr} {es : List Expr} {pos : Pos} {x : XG} {y : XGs} {do_ di da : XE} {nm : Str}
theorem sg_name (i : Nat) : SG (gName i) (nameD i) := fun G fr ps0 ps s σ H v r Q Qd hp R L o h f => f _ G ps _ H h Ex.rfl' hp R (L.set i o)
theorem dg_name (i : Nat) (hN : ∀ j, (F j).N.Nodup) (hi : ∀ j, (F j).N[i]? = some nm) (hx : ∀ j, Loc (F j).env.scope nm) (hf : ∀ j, (F j).fn nm = true ∨ (F j).env.scope.names.lookup nm = some .local := by first | exact fun _ => .inl rfl | exact fun _ => .inr rfl) : DG F (.Name nm pos) (nameD i) := ⟨_, fun j => pg_name (i := i) (hN j) (hi j) (hx j) (hf j), sg_name i⟩
theorem dgs_nil : DGs F [] nilG := ⟨_, fun _ => pgs_nil, fun G fr ps0 ps s σ H vs ts Q Qd hp R L o h f => by
  unfold nilG at h
  split at h
  · have : vs = [] := List.eq_nil_of_length_eq_zero o.1
    subst this
    exact ⟨rfl, f s G ps σ H h Ex.rfl' hp R L⟩
  · exact h.elim⟩
theorem dgs_cons (h1 : DG F e x) (h2 : DGs F es y) (hs : ∀ j, (assignEach (e :: es) (F j).env).map (·.2) = assign e (F j).env :: (assignEach es (F j).env).map (·.2) := by intro _; rfl) : DGs F (e :: es) (consG x y) := by
  obtain ⟨t, p, sx⟩ := h1
  obtain ⟨u, q, sy⟩ := h2
  refine ⟨_, fun j => pgs_cons (p j) (q j) (hs j), fun G fr ps0 ps s σ H vs ts Q Qd hp R L o h f => ?_⟩
  unfold consG at h
  split at h
  · cases vs with
    | nil => cases o.1
    | cons v vs =>
      refine ⟨v, vs, rfl, sx G fr ps0 ps s σ H v _ _ _ hp R L (show RfOk G ps v (.d _) from o.head) h fun s1 G1 ps1 σ1 H1 q1 e1 p1 R1 L1 => ?_⟩
      exact sy G1 fr ps0 ps1 s1 σ1 H1 vs _ Q Qd p1 R1 L1 (o.rest.ex e1) q1 (f.up e1)
  · exact h.elim
theorem dg_tup {k n : Nat} (hc : ∀ j, (F j).calm = true) (h : DGs F es y) (hn : ∀ j, (assignEach es (F j).env).length = n := by intro _; rfl) (hst : ∀ j, (assignEach es (F j).env).findIdx? (·.1) = none := by intro _; rfl) (hK : ∀ j, (F j).K = K := by intro _; rfl) : DG F (.Tuple es k pos) (tupG n y) := by
  obtain ⟨t, p, sx⟩ := h
  refine ⟨gTup K n t, fun j => ?_, fun G fr ps0 ps s σ H v r Q Qd hp R L o h f => ?_⟩
  · have := hK j
    subst this
    exact pg_tup (hc j) (p j) (hn j) (hst j)
  · unfold tupG at h
    split at h
    · obtain ⟨a, xs, rfl, h1, h2⟩ := Is.inT o
      exact ⟨a, xs, rfl, Evl.st_of (R.ex _ _ h1), by rw [h2.1]; exact h.1, sx G fr ps0 ps s σ H xs _ Q Qd hp R L h2 h.2 f⟩
    · exact h.elim
/-- o[i] = v, o a list -/
def subG (xo xi : XE) : XG := fun r s Q => xo s fun o ce1 => xi ⟨s.sl, ce1⟩ fun i ce2 => frz1 r ce2 fun t ce3 => ∃ k n j ds, o = .c k ∧ i = .d (.int n) ∧ ce3[k]? = some (.own ds) ∧ ixN ds.length n = some j ∧ Q ⟨s.sl, ce3.set k (.own (ds.set j t))⟩
theorem sg_sub {to ti : TE} (so : SE to do_) (si : SE ti di) : SG (gSub to ti rSetL) (subG do_ di) := fun G fr ps0 ps s σ H v r Q Qd hp R L o h f => by
  refine so G fr ps s σ H _ _ R L h fun o1 ce1 G1 ps1 H1 v1 q1 u1 R1 k1 => ?_
  refine si G1 fr ps1 ⟨s.sl, ce1⟩ σ H1 _ _ R1 (L.up u1) q1 fun i1 ce2 G2 ps2 H2 v2 q2 u2 R2 k2 => ?_
  obtain ⟨G3, t, ce3, ⟨k, n, j, ds, rfl, rfl, hc, hj, q3⟩, u3, R3, ht⟩ := frz_one R2 (o.up (u1.trans u2)) q2
  cases k2
  obtain ⟨p, xs, rfl, hpk, hx, hi⟩ := own_at R3 (k1.up (u2.trans u3)) hc
  have u13 := (u1.trans u2).trans u3
  exact ⟨p, xs, n, j, rfl, rfl, hx, by rw [hi.1]; exact hj, f _ G3 ps2 σ _ q3 u13.ex (hp.trans (u1.trans u2).pre) (R3.put hpk hc (hi.set j ht)) (L.up u13)⟩
theorem dg_sub (ho : DE F o do_) (hi : DE F i di) (ha : ∀ j v, assign (.Subscript o i pos) (F j).env v = (do
      let ov ← holding [v] (eval o (F j).env)
      let iv ← holding [v, ov] (eval i (F j).env)
      standAt pos
      holding [v, ov, iv] (setItem ov iv v)
      release [v, ov, iv] []) := by intro _ _; rfl) : DG F (.Subscript o i pos) (subG do_ di) := by
  obtain ⟨t, p, so⟩ := ho
  obtain ⟨u, q, si⟩ := hi
  exact ⟨_, fun j => pg_sub (p j) (q j) set_list (ha j), sg_sub so si⟩
def asgD (e : XE) (x : XG) : XS := fun E s => e s fun r ce => x r ⟨s.sl, ce⟩ E.nx
theorem SE.asg {te : TE} {g : L2.TG} (sa : SE te da) (sx : SG g x) : SS (tAsg te g) (asgD da x) := fun G fr ps0 ps s σ H E D hp R L h k => by
  refine sa.st hp R L h fun r ce G' ps' H' v q e' p' R' L' o => ?_
  exact sx G' fr ps0 ps' ⟨s.sl, ce⟩ σ H' v r _ _ p' R' L' o q (k.nx.up e')
theorem ds_set (i : Nat) {pos' : Pos} (hN : ∀ j, (F j).N.Nodup) (hi : ∀ j, (F j).N[i]? = some nm) (hx : ∀ j, Loc (F j).env.scope nm) (he : DE F e da) (hs : ∀ j, swapsWith e (some (.Name nm pos')) pos.line (F j).env = pure false := by intro _; rfl) (hf : ∀ j, (F j).fn nm = true ∨ (F j).env.scope.names.lookup nm = some .local := by first | exact fun _ => .inl rfl | exact fun _ => .inr rfl) :
    DS F (.Assign [.Name nm pos'] e pos) (asgD da (nameD i)) := by
  obtain ⟨t, p, sa⟩ := he
  exact ⟨_, fun j => ps_set (i := i) (hN j) (hi j) (hx j) (p j) (hs j) (hf j), sa.asg (sg_name i)⟩
theorem ds_asg {tg : Expr} (he : DE F e da) (hg : DG F tg x) (hs : ∀ j, swapsWithSole [tg] e pos.line (F j).env = pure false := by intro _; rfl) (hw : ∀ j, swappedStores [tg] e (F j).env = pure none := by intro _; rfl)
    (h1 : ∀ j, (assignEach [tg] (F j).env).map (·.2) = [assign tg (F j).env] := by intro _; rfl) : DS F (.Assign [tg] e pos) (asgD da x) := by
  obtain ⟨t, p, sa⟩ := he
  obtain ⟨u, q, sx⟩ := hg
  exact ⟨_, fun j => ps_asg (p j) (q j) (hs j) (hw j) (h1 j), sa.asg sx⟩
/-- n += e, ints -/
def augD (i : Nat) (f : Int → Int → Int) (e : XE) : XS := fun E s => ∃ n : Int, s.sl[i]? = some (some (.d (.int n))) ∧ e s fun r ce => match r with
  | .d (.int m) => E.nx ⟨s.sl.set i (some (.d (.int (f n m)))), ce⟩
  | _ => False
theorem ds_aug (i : Nat) {pos' : Pos} {op : Operator} {f : Int → Int → Int} (hN : ∀ j, (F j).N.Nodup) (hi : ∀ j, (F j).N[i]? = some nm) (hx : ∀ j, Loc (F j).env.scope nm) (he : DE F e da) (ho : ∀ j, PIp (F j) op (ipI f)) (hf : ∀ j, (F j).fn nm = true ∨ (F j).env.scope.names.lookup nm = some .local := by first | exact fun _ => .inl rfl | exact fun _ => .inr rfl) :
    DS F (.AugAssign (.Name nm pos') op e pos) (augD i f da) := by
  obtain ⟨t, p, sa⟩ := he
  refine ⟨_, fun j => ps_aug (i := i) (hN j) (hi j) (hx j) (p j) (ho j) (hf j), fun G fr ps0 ps s σ H E D hp R L h k => ?_⟩
  obtain ⟨n, hn, h⟩ := h
  obtain ⟨v, hv, hr⟩ := L.2 i _ hn
  cases hr
  refine ⟨_, hv, sa.st hp R L h fun r ce G' ps' H' v q e' p' R' L' o => ?_⟩
  split at q
  · cases o
    exact ⟨_, _, rfl, rfl, k.nx _ G' ps' _ H' q e' p' R' (L'.set (r := .d (.int _)) i (.int _))⟩
  · exact q.elim
/-- o[i] += e, a list of ints -/
def augS (f : Int → Int → Int) (xo xi e : XE) : XS := fun E s => xo s fun o ce1 => xi ⟨s.sl, ce1⟩ fun i ce2 => ∃ k n, o = .c k ∧ i = .d (.int (n : Nat)) ∧ e ⟨s.sl, ce2⟩ fun r ce3 => ∃ ds a b, ce2[k]? = some (.own ds) ∧ ce3[k]? = some (.own ds) ∧ ds[n]? = some (.int a) ∧ r = .d (.int b) ∧ E.nx ⟨s.sl, ce3.set k (.own (ds.set n (.int (f a b))))⟩
end
/-! loops -/
/-- what is walked, what must stay so, how many cells that asks for -/
abbrev XI := Ds → (List Dt → (List Cl → Prop) → Nat → List Cl → Prop) → Prop
structure WkD (J : It) (items : List Dt) (keep : List Cl → Prop) (G : Hp) (ps : List Addr) : Prop where
  goes : ∀ i G' fr ps' ce H, i < items.length → Ex G G' → ps <+: ps' → Rl G' fr ps' ce H → keep ce → J.go i H
  stops : ∀ G' fr ps' ce H, Ex G G' → ps <+: ps' → Rl G' fr ps' ce H → keep ce → J.stop items.length H
  yields : ∀ i t G' fr ps' ce H x H', items[i]? = some t → Ex G G' → ps <+: ps' → Rl G' fr ps' ce H → keep ce → J.yld i H x H' → ∃ G2, Ex G' G2 ∧ Rl G2 fr ps' ce H' ∧ Is G2 x t
theorem WkD.up {J : It} {items : List Dt} {keep : List Cl → Prop} {G G' : Hp} {ps ps' : List Addr} (w : WkD J items keep G ps) (u : Up G ps G' ps') : WkD J items keep G' ps' :=
  ⟨fun i G2 fr ps2 ce H hi e p R k => w.goes i G2 fr ps2 ce H hi (u.ex.trans e) (u.pre.trans p) R k, fun G2 fr ps2 ce H e p R k => w.stops G2 fr ps2 ce H (u.ex.trans e) (u.pre.trans p) R k,
    fun i t G2 fr ps2 ce H x H' hi e p R k y => w.yields i t G2 fr ps2 ce H x H' hi (u.ex.trans e) (u.pre.trans p) R k y⟩
def SI (wi : L2.TI) (x : XI) : Prop := ∀ G fr ps (s : Ds) σ H R Rd, Rl G fr ps s.ce H → SlOk G ps s.sl σ → x s Rd → (∀ items keep m ce G' ps' H' J, Rd items keep m ce → Up G ps G' ps' → Rl G' fr ps' ce H' → m ≤ ce.length → WkD J items keep G' (ps'.take m) → R J H') → wi σ H R
def DI {ι : Type} (F : ι → Cx) (tg e : Expr) (x : XI) : Prop := ∃ t, (∀ i, PI (F i) tg e t) ∧ SI t x
/-- cells that no slot names are dropped -/
def gcR (ks : List Nat) : Option Rf → Option Rf
  | some (.d t) => some (.d t)
  | some (.c k) => match ks.findIdx? (· == k) with
    | some j => some (.c j)
    | none => none
  | none => none
def gcS (ks : List Nat) (s : Ds) : Ds := ⟨s.sl.map (gcR ks), ks.filterMap fun k => s.ce[k]?⟩
def gcOk (n0 : Nat) (ks : List Nat) (n : Nat) : Prop := ks.Nodup ∧ (∀ k ∈ ks, k < n) ∧ ks.take n0 = List.range n0
def nxt (n0 : Nat) (I : Ds → Prop) : Ds → Prop := fun s => I s ∨ ∃ ks, gcOk n0 ks s.ce.length ∧ I (gcS ks s)
/-- a loop over these items, by what holds at each turn -/
@[irreducible] def forB (g : XG) (tb : XS) (E : Ed) (items : List Dt) (keep : List Cl → Prop) (m : Nat) (s : Ds) : Prop := ∃ I : Nat → Ds → Prop, I 0 s ∧ (∀ i s, i ≤ items.length → I i s → keep s.ce) ∧
  (∀ i t s, items[i]? = some t → I i s → g (.d t) s (tb { nx := nxt (max E.n0 m) (I (i + 1)), rt := E.rt, ct := nxt (max E.n0 m) (I (i + 1)), bk := E.nx, n0 := max E.n0 m })) ∧ ∀ s, I items.length s → E.nx s
def forD (wi : XI) (g : XG) (tb : XS) : XS := fun E s => wi s fun items keep m ce => forB g tb E items keep m ⟨s.sl, ce⟩
def whileD (c : XT) (tb : XS) : XS := fun E s => ∃ I : Nat → Ds → Prop, (∃ m, I m s) ∧ ∀ m s, I m s → c s fun b ce => if b = true then tb { nx := nxt E.n0 (fun s' => ∃ m', m' < m ∧ I m' s'), rt := E.rt, ct := nxt E.n0 (fun s' => ∃ m', m' < m ∧ I m' s'), bk := E.nx, n0 := E.n0 } ⟨s.sl, ce⟩ else E.nx ⟨s.sl, ce⟩
theorem gc_at {ks : List Nat} {k j : Nat} (h : ks.findIdx? (· == k) = some j) : ks[j]? = some k := by
  obtain ⟨h1, h2, _⟩ := List.findIdx?_eq_some_iff_getElem.mp h
  rw [List.getElem?_eq_getElem h1]
  exact congrArg some (beq_iff_eq.mp h2)
theorem fm_at {α : Type} {l : List α} : ∀ {ks : List Nat}, (∀ k ∈ ks, k < l.length) → ∀ j : Nat, (ks.filterMap fun k => l[k]?)[j]? = (ks[j]?).bind fun k : Nat => l[k]?
  | [], _, j => rfl
  | k :: ks, h, j => by
    have hk : l[k]? = some (l[k]'(h k List.mem_cons_self)) := List.getElem?_eq_getElem _
    rw [List.filterMap_cons_some hk]
    cases j with
    | zero => exact hk.symm
    | succ j => exact fm_at (fun k' hk' => h k' (List.mem_cons_of_mem _ hk')) j
theorem fm_len {α : Type} {l : List α} : ∀ {ks : List Nat}, (∀ k ∈ ks, k < l.length) → (ks.filterMap fun k => l[k]?).length = ks.length
  | [], _ => rfl
  | k :: ks, h => by
    have hk : l[k]? = some (l[k]'(h k List.mem_cons_self)) := List.getElem?_eq_getElem _
    rw [List.filterMap_cons_some hk, List.length_cons, List.length_cons, fm_len fun k' hk' => h k' (List.mem_cons_of_mem _ hk')]
theorem gc_rl {G H : Hp} {fr : List (Addr × HO)} {ps ps0 : List Addr} {s : Ds} {σ : L2.St} {ks : List Nat} (R : Rl G fr ps s.ce H) (L : SlOk G ps s.sl σ) (hp : ps0 <+: ps) (g : gcOk ps0.length ks s.ce.length) :
    ∃ ps', ps0 <+: ps' ∧ Rl G fr ps' (gcS ks s).ce H ∧ SlOk G ps' (gcS ks s).sl σ := by
  obtain ⟨nd, lt, pre⟩ := g
  have ltp : ∀ k ∈ ks, k < ps.length := fun k hk => by rw [R.ln]; exact lt k hk
  have atp := fm_at (l := ps) ltp
  refine ⟨ks.filterMap fun k => ps[k]?, ?_, ⟨R.ex, by show _ = (ks.filterMap fun k => s.ce[k]?).length; rw [fm_len ltp, fm_len lt], ?_, fun j p c h1 h2 => ?_, R.fo, R.nf, fun f hf hm => ?_⟩, ⟨by show (s.sl.map _).length = _; rw [List.length_map]; exact L.1, fun i r h => ?_⟩⟩
  · obtain ⟨t, rfl⟩ := hp
    have e : (ks.filterMap fun k => (ps0 ++ t)[k]?) = ((List.range ps0.length).filterMap fun k => (ps0 ++ t)[k]?) ++ ((ks.drop ps0.length).filterMap fun k => (ps0 ++ t)[k]?) := by
      rw [← pre, ← List.filterMap_append, List.take_append_drop]
    have e2 : ((List.range ps0.length).filterMap fun k => (ps0 ++ t)[k]?) = ps0 := by
      refine List.ext_getElem? fun j => ?_
      rw [fm_at fun k hk => by rw [List.length_append]; have := List.mem_range.mp hk; omega]
      by_cases hj : j < ps0.length
      · rw [List.getElem?_range hj]
        show (ps0 ++ t)[j]? = _
        rw [List.getElem?_append_left hj]
      · rw [List.getElem?_eq_none (by rw [List.length_range]; omega), List.getElem?_eq_none (by omega)]
        rfl
    rw [e, e2]
    exact List.prefix_append _ _
  · unfold List.Nodup
    rw [List.pairwise_iff_getElem]
    intro i j hi hj l e
    rw [fm_len ltp] at hi hj
    have a1 := atp i
    have a2 := atp j
    rw [List.getElem?_eq_getElem (by rw [fm_len ltp]; exact hi), List.getElem?_eq_getElem hi] at a1
    rw [List.getElem?_eq_getElem (by rw [fm_len ltp]; exact hj), List.getElem?_eq_getElem hj] at a2
    have b1 : ps[ks[i]]? = some ((ks.filterMap fun k => ps[k]?)[i]'(by rw [fm_len ltp]; exact hi)) := a1.symm
    have b2 : ps[ks[j]]? = some ((ks.filterMap fun k => ps[k]?)[j]'(by rw [fm_len ltp]; exact hj)) := a2.symm
    rw [e] at b1
    have : ks[i] = ks[j] := nodup_at R.nd b1 b2
    exact absurd (nodup_at nd (List.getElem?_eq_getElem hi) (by rw [this]; exact List.getElem?_eq_getElem hj)) (by omega)
  · have h2 : (ks.filterMap fun k => s.ce[k]?)[j]? = some c := h2
    rw [fm_at lt] at h2
    rw [atp] at h1
    cases e : ks[j]? with
    | none => rw [e] at h1; cases h1
    | some k =>
      rw [e] at h1 h2
      exact R.ce k p c h1 h2
  · obtain ⟨k, hk, e⟩ := List.mem_filterMap.mp hm
    exact R.sp f hf (List.mem_of_getElem? e)
  · have h : (s.sl.map (gcR ks))[i]? = some (some r) := h
    rw [List.getElem?_map] at h
    cases e : s.sl[i]? with
    | none => rw [e] at h; cases h
    | some o =>
      rw [e] at h
      have h : gcR ks o = some r := Option.some.inj h
      cases o with
      | none => cases h
      | some r0 =>
        obtain ⟨v, hv, ho⟩ := L.2 i r0 e
        refine ⟨v, hv, ?_⟩
        cases r0 with
        | d t =>
          cases h
          exact ho
        | c k =>
          unfold gcR at h
          dsimp only at h
          split at h
          · rename_i j hj
            cases h
            obtain ⟨p, ep, hp'⟩ := ho
            refine ⟨p, ep, ?_⟩
            rw [atp, gc_at hj]
            exact hp'
          · cases h
theorem nxt_ok {G : Hp} {fr : List (Addr × HO)} {ps0 : List Addr} {n0 : Nat} {I : Ds → Prop} {Q : L2.St → Hp → Prop} (e0 : n0 = ps0.length) (f : FinS G fr ps0 I Q) : FinS G fr ps0 (nxt n0 I) Q := fun s G' ps' σ H h e p R L => by
  rcases h with h | ⟨ks, g, h⟩
  · exact f s G' ps' σ H h e p R L
  · rw [e0] at g
    obtain ⟨ps2, p2, R2, L2⟩ := gc_rl R L p g
    exact f _ G' ps2 σ H h e p2 R2 L2
theorem pre_max {ps0 ps : List Addr} {m : Nat} (hp : ps0 <+: ps) (hm : m ≤ ps.length) : ps0 <+: ps.take (max ps0.length m) ∧ ps.take m <+: ps.take (max ps0.length m) ∧ (ps.take (max ps0.length m)).length = max ps0.length m ∧ ps.take (max ps0.length m) <+: ps := by
  have l0 := hp.length_le
  have e0 : ps.take ps0.length = ps0 := (List.prefix_iff_eq_take.mp hp).symm
  refine ⟨?_, ?_, by rw [List.length_take]; omega, List.take_prefix _ _⟩
  · conv => lhs; rw [← e0]
    exact List.take_prefix_take_left (by omega)
  · exact List.take_prefix_take_left (by omega)
section
variable {ι : Type} {F : ι → Cx} {K : PySem.W.Frag} {tg iter c e : Expr} {body : List Stmt} {pos : Pos} {wi : XI} {g : XG} {tb : XS} {dC : XT} {da : XE}
theorem ds_for (hp : ∀ j, PassesOwn (model (F j).prog (F j).w) (F j).A (F j).env (F j).xe) (hc : ∀ j, (F j).calm = true) (hi : DI F tg iter wi) (hg : DG F tg g) (hb : DSs F body tb) (hs : ∀ j x, foldedSetIterable iter (F j).env x = pure x := by intro _ _; rfl) : DS F (.For tg iter body [] pos) (forD wi g tb) := by
  obtain ⟨ti, pi, si⟩ := hi
  obtain ⟨tg', pg, sg⟩ := hg
  obtain ⟨t, pb, sb⟩ := hb
  refine ⟨_, fun j => ps_for (hp j) (hc j) (pi j) (pg j) (pb j) (hs j), fun G fr ps0 ps s σ H E D hp R L h k => ?_⟩
  refine si G fr ps s σ H _ _ R L h fun items keep m ce G1 ps1 H1 J q u1 R1 hm w => ?_
  unfold forB at q
  obtain ⟨I, h0, hk, hs', hd⟩ := q
  have k1 := k.up u1.ex
  obtain ⟨p0m, pm, lm, pmp⟩ := pre_max (hp.trans u1.pre) (show m ≤ ps1.length by rw [R1.ln]; exact hm)
  have en : max E.n0 m = (ps1.take (max ps0.length m)).length := by rw [lm, k.n0]
  generalize hpsx : ps1.take (max ps0.length m) = psx at p0m pm pmp en
  refine ⟨fun i m σ' H' => ∃ G' ps' s', m = items.length - i ∧ i ≤ items.length ∧ Ex G1 G' ∧ psx <+: ps' ∧ Rl G' fr ps' s'.ce H' ∧ SlOk G' ps' s'.sl σ' ∧ I i s', ⟨items.length, G1, ps1, ⟨s.sl, ce⟩, rfl, Nat.zero_le _, Ex.rfl', pmp, R1, L.up u1, h0⟩, ?_⟩
  rintro i m' σ' H' ⟨G', ps', s', rfl, hi, e', p1, R', L', hI⟩
  by_cases hlt : i < items.length
  · refine .inr ⟨w.goes i G' fr ps' s'.ce H' hlt e' (pm.trans p1) R' (hk i s' hi hI), fun σ2 H2 => ∃ G' ps' s', Ex G1 G' ∧ psx <+: ps' ∧ Rl G' fr ps' s'.ce H2 ∧ SlOk G' ps' s'.sl σ2 ∧ I (i + 1) s', fun σ2 H2 z => ?_, fun x H2 y => ?_⟩
    · obtain ⟨G2, ps2, s2, a1, a2, a3, a4, a5⟩ := z
      exact ⟨items.length - (i + 1), by omega, G2, ps2, s2, rfl, hlt, a1, a2, a3, a4, a5⟩
    · obtain ⟨G2, e2, R2, ht⟩ := w.yields i _ G' fr ps' s'.ce H' x H2 (List.getElem?_eq_getElem hlt) e' (pm.trans p1) R' (hk i s' hi hI) y
      have L2 := L'.up (⟨e2, List.prefix_rfl⟩ : Up G' ps' G2 ps')
      have f1 : FinS G2 fr psx (I (i + 1)) (fun σ2 H2 => ∃ G' ps' s', Ex G1 G' ∧ psx <+: ps' ∧ Rl G' fr ps' s'.ce H2 ∧ SlOk G' ps' s'.sl σ2 ∧ I (i + 1) s') := fun s3 G3 ps3 σ3 H3 q3 e3 p3 R3 L3 => ⟨G3, ps3, s3, (e'.trans e2).trans e3, p3, R3, L3, q3⟩
      refine sg G2 fr psx ps' s' σ' H2 x (.d items[i]) _ _ p1 R2 L2 (show RfOk G2 ps' x (.d _) from ht) (hs' i _ s' (List.getElem?_eq_getElem hlt) hI) fun s3 G3 ps3 σ3 H3 q3 e3 p3 R3 L3 => ?_
      refine sb G3 fr psx ps3 s3 σ3 H3 _ _ p3 R3 L3 q3 ⟨nxt_ok en (f1.up e3), fun r ce' G4 ps4 H4 v q4 e4 p4 R4 o4 => k1.rt r ce' G4 ps4 H4 v q4 (((e'.trans e2).trans e3).trans e4) (p0m.trans p4) R4 o4, fun s4 G4 ps4 σ4 H4 q4 e4 p4 R4 L4 => ?_, nxt_ok en (f1.up e3), en⟩
      exact k1.nx s4 G4 ps4 σ4 H4 q4 (((e'.trans e2).trans e3).trans e4) (p0m.trans p4) R4 L4
  · have e : i = items.length := by omega
    subst e
    exact .inl ⟨w.stops G' fr ps' s'.ce H' e' (pm.trans p1) R' (hk _ s' hi hI), k1.nx s' G' ps' σ' H' (hd s' hI) e' (p0m.trans p1) R' L'⟩
theorem ds_while (hp : ∀ j, PassesOwn (model (F j).prog (F j).w) (F j).A (F j).env (F j).xe) (hc : DT F c dC) (hb : DSs F body tb) : DS F (.While c body [] pos) (whileD dC tb) := by
  obtain ⟨tc, pc, sc⟩ := hc
  obtain ⟨t, pb, sb⟩ := hb
  refine ⟨_, fun j => ps_while (hp j) (pc j) (pb j), fun G fr ps0 ps s σ H E D hp R L h k => ?_⟩
  obtain ⟨I, ⟨m0, h0⟩, turn⟩ := h
  refine ⟨fun m σ' H' => ∃ G' ps' s', Ex G G' ∧ ps0 <+: ps' ∧ Rl G' fr ps' s'.ce H' ∧ SlOk G' ps' s'.sl σ' ∧ I m s', ⟨m0, G, ps, s, Ex.rfl', hp, R, L, h0⟩, ?_⟩
  rintro m σ' H' ⟨G', ps', s', e', p', R', L', hI⟩
  refine sc.st p' R' L' (turn m s' hI) fun b ce G2 ps2 H2 q e2 p2 R2 L2 => ?_
  cases b with
  | true =>
    have f1 : FinS G2 fr ps0 (fun s' => ∃ m', m' < m ∧ I m' s') (fun σ' H' => ∃ m', m' < m ∧ ∃ G' ps' s', Ex G G' ∧ ps0 <+: ps' ∧ Rl G' fr ps' s'.ce H' ∧ SlOk G' ps' s'.sl σ' ∧ I m' s') := fun s3 G3 ps3 σ3 H3 q3 e3 p3 R3 L3 => by
      obtain ⟨m', lt, q3⟩ := q3
      exact ⟨m', lt, G3, ps3, s3, (e'.trans e2).trans e3, p3, R3, L3, q3⟩
    refine ⟨fun σ' H' => ∃ m', m' < m ∧ ∃ G' ps' s', Ex G G' ∧ ps0 <+: ps' ∧ Rl G' fr ps' s'.ce H' ∧ SlOk G' ps' s'.sl σ' ∧ I m' s', fun _ _ z => z, ?_⟩
    exact sb G2 fr ps0 ps2 ⟨s'.sl, ce⟩ σ' H2 _ _ p2 R2 L2 q ⟨nxt_ok k.n0 f1, fun r ce' G4 ps4 H4 v q4 e4 p4 R4 o4 => k.rt r ce' G4 ps4 H4 v q4 ((e'.trans e2).trans e4) p4 R4 o4, fun s4 G4 ps4 σ4 H4 q4 e4 p4 R4 L4 => k.nx s4 G4 ps4 σ4 H4 q4 ((e'.trans e2).trans e4) p4 R4 L4, nxt_ok k.n0 f1, k.n0⟩
  | false => exact k.nx _ G2 ps2 σ' H2 q (e'.trans e2) p2 R2 L2
/-! what is walked -/
def seqI (e : XE) : XI := fun s Rd => e s fun r ce => ∃ ds, itemsOf ce r = some ds ∧ match r with
  | .d _ => Rd ds (fun _ => True) 0 ce
  | .c k => k < ce.length ∧ Rd ds (fun ce' => itemsOf ce' (.c k) = some ds) (k + 1) ce
theorem wk_list {G : Hp} {ps : List Addr} {a : Addr} {ds : List Dt} {keep : List Cl → Prop} (h : ∀ G' fr ps' ce H, Ex G G' → ps <+: ps' → Rl G' fr ps' ce H → keep ce → ∃ xs, H a = some (.lst xs) ∧ Iss G' xs ds) : WkD (Itl K a) ds keep G ps where
  goes := fun i G' fr ps' ce H hi e p R k => by
    obtain ⟨xs, h1, h2⟩ := h G' fr ps' ce H e p R k
    have lt : i < xs.length := by rw [h2.1]; exact hi
    exact ⟨xs, xs[i], Evl.sq_of h1, List.getElem?_eq_getElem lt⟩
  stops := fun G' fr ps' ce H e p R k => by
    obtain ⟨xs, h1, h2⟩ := h G' fr ps' ce H e p R k
    exact ⟨xs, Evl.sq_of h1, by rw [h2.1]; exact Nat.le_refl _⟩
  yields := fun i t G' fr ps' ce H x H' hi e p R k y => by
    obtain ⟨xs, h1, h2⟩ := h G' fr ps' ce H e p R k
    obtain ⟨rfl, y⟩ := y
    obtain ⟨v, hv, hit⟩ := h2.get hi
    have := y xs (Evl.sq_of h1)
    rw [hv] at this
    cases this
    exact ⟨G', Ex.rfl', R, hit⟩
theorem wk_tup {G : Hp} {ps : List Addr} {a : Addr} {ds : List Dt} {keep : List Cl → Prop} {xs : List V} (h1 : G a = some (.tup xs)) (h2 : Iss G xs ds) : WkD (Itt K a) ds keep G ps where
  goes := fun i G' fr ps' ce H hi e p R k => by
    have lt : i < xs.length := by rw [h2.1]; exact hi
    exact ⟨xs, xs[i], Evl.st_of (R.ex _ _ (e _ _ h1)), List.getElem?_eq_getElem lt⟩
  stops := fun G' fr ps' ce H e p R k => ⟨xs, Evl.st_of (R.ex _ _ (e _ _ h1)), by rw [h2.1]; exact Nat.le_refl _⟩
  yields := fun i t G' fr ps' ce H x H' hi e p R k y => by
    obtain ⟨rfl, y⟩ := y
    obtain ⟨v, hv, hit⟩ := h2.get hi
    have := y xs (Evl.st_of (R.ex _ _ (e _ _ h1)))
    rw [hv] at this
    cases this
    exact ⟨G', Ex.rfl', R, hit.ex e⟩
theorem keep_at {G : Hp} {ps : List Addr} {k : Nat} {a : Addr} {ds : List Dt} (hk : ps[k]? = some a) : ∀ G' fr ps' ce H, Ex G G' → ps.take (k + 1) <+: ps' → Rl G' fr ps' ce H → itemsOf ce (.c k) = some ds → ∃ xs, H a = some (.lst xs) ∧ Iss G' xs ds := fun G' fr ps' ce H e p R h => by
  have hk' : ps'[k]? = some a := by
    obtain ⟨t, rfl⟩ := p
    have lt := (List.getElem?_eq_some_iff.mp hk).1
    rw [List.getElem?_append_left (by rw [List.length_take]; omega), List.getElem?_take, if_pos (by omega)]
    exact hk
  obtain ⟨b, xs, e1, h1, h2⟩ := lst_at (r := .c k) (v := .ref a) R ⟨a, rfl, hk'⟩ h
  cases e1
  exact ⟨xs, h1, h2⟩
theorem di_seq (h : DE F e da) (hK : ∀ j, (F j).K = K := by intro _; rfl) : DI F tg e (seqI da) := by
  obtain ⟨t, p, sa⟩ := h
  refine ⟨_, fun j => pi_any (K := K) (p j) (hK j), fun G fr ps s σ H R Rd R0 L h f => sa G fr ps s σ H _ _ R0 L h fun r ce G1 ps1 H1 v q u R1 o => ?_⟩
  obtain ⟨ds, hd, q⟩ := q
  cases r with
  | c k =>
    obtain ⟨lk, q⟩ := q
    obtain ⟨a, rfl, hk⟩ := id o
    obtain ⟨_, xs, e1, h1, h2⟩ := lst_at (r := .c k) R1 o hd
    cases e1
    exact ⟨a, rfl, .inl ⟨⟨xs, Evl.sq_of h1⟩, f _ _ _ _ G1 ps1 H1 _ q u R1 lk (wk_list (keep_at hk))⟩⟩
  | d t =>
    cases t with
    | lst es =>
      cases hd
      obtain ⟨a, xs, rfl, h1, h2⟩ := Is.inL o
      exact ⟨a, rfl, .inl ⟨⟨xs, Evl.sq_of (R1.ex _ _ h1)⟩, f _ _ _ _ G1 ps1 H1 _ q u R1 (Nat.zero_le _) (wk_list fun G' fr ps' ce H e p R k => ⟨xs, R.ex _ _ (e _ _ h1), h2.ex e⟩)⟩⟩
    | tup es =>
      cases hd
      obtain ⟨a, xs, rfl, h1, h2⟩ := Is.inT o
      exact ⟨a, rfl, .inr ⟨⟨xs, Evl.st_of (R1.ex _ _ h1)⟩, f _ _ _ _ G1 ps1 H1 _ q u R1 (Nat.zero_le _) (wk_tup h1 h2)⟩⟩
    | _ => cases hd
def rngL (a : Int) (n : Nat) : List Dt := (List.range n).map fun i => Dt.int (a + (i : Nat))
theorem wk_rng {G : Hp} {ps : List Addr} {a : Int} {n : Nat} {keep : List Cl → Prop} : WkD (Itr a n) (rngL a n) keep G ps where
  goes := fun i G' fr ps' ce H hi e p R k => by unfold rngL at hi; rw [List.length_map, List.length_range] at hi; exact hi
  stops := fun G' fr ps' ce H e p R k => by unfold rngL; rw [List.length_map, List.length_range]; exact Nat.le_refl _
  yields := fun i t G' fr ps' ce H x H' hi e p R k y => by
    obtain ⟨rfl, rfl⟩ := y
    unfold rngL at hi
    rw [List.getElem?_map] at hi
    have lt : i < n := by
      cases c : (List.range n)[i]? with
      | none => rw [c] at hi; cases hi
      | some z => have := (List.getElem?_eq_some_iff.mp c).1; rw [List.length_range] at this; exact this
    rw [List.getElem?_range lt] at hi
    cases hi
    exact ⟨G', Ex.rfl', R, .int _⟩
theorem rng0 (n : Nat) : rngL 0 ((n : Nat) : Int).toNat = (List.range n).map fun i => Dt.int (i : Nat) := by
  unfold rngL
  rw [Int.toNat_natCast]
  exact List.map_congr_left fun i _ => congrArg Dt.int (Int.zero_add _)
theorem for_seq {α : Type} {g : XG} {tb : XS} {E : Ed} {xs : List α} {h : α → Dt} {keep : List Cl → Prop} {m : Nat} {s : Ds} (I : Nat → Ds → Prop) (h0 : I 0 s) (hk : ∀ i s, i ≤ xs.length → I i s → keep s.ce)
    (hs : ∀ i x s, xs[i]? = some x → I i s → g (.d (h x)) s (tb { nx := nxt (max E.n0 m) (I (i + 1)), rt := E.rt, ct := nxt (max E.n0 m) (I (i + 1)), bk := E.nx, n0 := max E.n0 m })) (hd : ∀ s, I xs.length s → E.nx s) : forB g tb E (xs.map h) keep m s := by
  unfold forB
  rw [List.length_map]
  refine ⟨I, h0, hk, fun i t s hi hI => ?_, hd⟩
  rw [List.getElem?_map] at hi
  cases e : xs[i]? with
  | none => rw [e] at hi; cases hi
  | some x =>
    rw [e] at hi
    cases hi
    exact hs i x s e hI
theorem for_rng {g : XG} {tb : XS} {E : Ed} {n : Nat} {m : Nat} {s : Ds} (I : Nat → Ds → Prop) (h0 : I 0 s) (hs : ∀ i s, i < n → I i s → g (.d (.int (i : Nat))) s (tb { nx := nxt (max E.n0 m) (I (i + 1)), rt := E.rt, ct := nxt (max E.n0 m) (I (i + 1)), bk := E.nx, n0 := max E.n0 m })) (hd : ∀ s, I n s → E.nx s) :
    forB g tb E (rngL 0 ((n : Nat) : Int).toNat) (fun _ => True) m s := by
  rw [rng0]
  refine for_seq I h0 (fun _ _ _ _ => trivial) (fun i x s hi hI => ?_) (fun s hI => hd s (by rw [List.length_range] at hI; exact hI))
  have lt := (List.getElem?_eq_some_iff.mp hi).1
  rw [List.length_range] at lt
  rw [List.getElem?_range lt] at hi
  cases hi
  exact hs i s lt hI
def rngI1 (dl : XA) : XI := fun s Rd => dl s fun rs ce => match rs with
  | [.d (.int j)] => (-(2 ^ 62) ≤ j ∧ j < 2 ^ 62) ∧ Rd (rngL 0 j.toNat) (fun _ => True) 0 ce
  | _ => False
def rngI2 (dl : XA) : XI := fun s Rd => dl s fun rs ce => match rs with
  | [.d (.int i), .d (.int j)] => (-(2 ^ 62) ≤ i ∧ i < 2 ^ 62 ∧ -(2 ^ 62) ≤ j ∧ j < 2 ^ 62) ∧ Rd (rngL i (j - i).toNat) (fun _ => True) 0 ce
  | _ => False
theorem di_rng1 {p : Pos} {dl : XA} (hg : ∀ j, Gl (F j) "range") (hm : ∀ j, (F j).mg "range" = none) (ha : DA F [e] dl) (hs : ∀ j, starEach [e] (F j).env = [(false, eval e (F j).env)] := by intro _; rfl) : DI F tg (.Call (.Name "range" p) [e] [] pos) (rngI1 dl) := by
  obtain ⟨t, q, sa⟩ := ha
  refine ⟨_, fun j => pi_range1 (hg j) (hm j) (q j) (hs j), fun G fr ps s σ H R Rd R0 L h f => sa G fr ps s σ H _ _ R0 L h fun rs ce G1 ps1 H1 vs q u R1 o => ?_⟩
  split at q
  · cases o with
    | cons o t =>
      cases o
      cases t
      exact ⟨_, rfl, q.1.1, q.1.2, f _ _ _ _ G1 ps1 H1 _ q.2 u R1 (Nat.zero_le _) wk_rng⟩
  · exact q.elim
theorem di_rng2 {p : Pos} {e2 : Expr} {dl : XA} (hg : ∀ j, Gl (F j) "range") (hm : ∀ j, (F j).mg "range" = none) (ha : DA F [e, e2] dl) (hs : ∀ j, starEach [e, e2] (F j).env = [(false, eval e (F j).env), (false, eval e2 (F j).env)] := by intro _; rfl) (hs2 : ∀ j, starEach [e2] (F j).env = [(false, eval e2 (F j).env)] := by intro _; rfl) : DI F tg (.Call (.Name "range" p) [e, e2] [] pos) (rngI2 dl) := by
  obtain ⟨t, q, sa⟩ := ha
  refine ⟨_, fun j => pi_range2 (hg j) (hm j) (q j) (hs j) (hs2 j), fun G fr ps s σ H R Rd R0 L h f => sa G fr ps s σ H _ _ R0 L h fun rs ce G1 ps1 H1 vs q u R1 o => ?_⟩
  split at q
  · cases o with
    | cons o t =>
      cases o
      cases t with
      | cons o t =>
        cases o
        cases t
        exact ⟨_, _, rfl, q.1, f _ _ _ _ G1 ps1 H1 _ q.2 u R1 (Nat.zero_le _) wk_rng⟩
  · exact q.elim
end
end TD
set_option Elab.async false
set_option linter.all false
set_option maxRecDepth 100000
set_option maxHeartbeats 1000000
/-! comprehensions -/
namespace TD
open PySem PySem.Spec PyProof.Rows L2 TW
section
variable {G H : Hp} {fr : List (Addr × HO)} {ps : List Addr} {ce : List Cl} {q : Addr} {o o' : HO}
/-- a thing goes into the frame -/
theorem Rl.pushF (R : Rl G fr ps ce H) (nq : H q = none) : Rl G ((q, o) :: fr) ps ce (upd H q o) := by
  obtain ⟨nG, np⟩ := R.fresh nq
  have R' := R.go (Evl.Ex.new (o := o) nq)
  refine ⟨R'.ex, R'.ln, R'.nd, R'.ce, fun f hf => ?_, ?_, fun f hf => ?_⟩
  · rcases List.mem_cons.mp hf with e | e
    · subst e
      exact ⟨.inl nG, upd_same⟩
    · exact R'.fo f e
  · rw [List.map_cons, List.nodup_cons]
    refine ⟨fun hm => ?_, R.nf⟩
    obtain ⟨f, hf, e⟩ := List.mem_map.mp hm
    have := (R.fo f hf).2
    rw [e, nq] at this
    cases this
  · rcases List.mem_cons.mp hf with e | e
    · subst e
      exact np
    · exact R.sp f e
theorem Rl.setF (R : Rl G ((q, o) :: fr) ps ce H) (ho : ∀ ts, o ≠ .tup ts) : Rl G ((q, o') :: fr) ps ce (upd H q o') := by
  obtain ⟨nG', hq⟩ := R.fo _ List.mem_cons_self
  have nG : G q = none := nG'.elim id fun ⟨ts, e⟩ => absurd e (ho ts)
  have np : q ∉ ps := R.sp _ List.mem_cons_self
  have nf := R.nf
  rw [List.map_cons, List.nodup_cons] at nf
  refine ⟨fun a u h => by rw [upd_ne (ne_of_none h nG)]; exact R.ex a u h, R.ln, R.nd, fun k p c h1 h2 => ?_, fun f hf => ?_, by rw [List.map_cons, List.nodup_cons]; exact nf, fun f hf => ?_⟩
  · have h := R.ce k p c h1 h2
    have pq : p ≠ q := fun e => np (e ▸ List.mem_of_getElem? h1)
    cases c with
    | own ds =>
      obtain ⟨a, xs, b, c⟩ := h
      exact ⟨a, xs, by rw [upd_ne pq]; exact b, c⟩
    | frz ds => exact h
    | any o => exact ⟨h.1, by rw [upd_ne pq]; exact h.2⟩
  · rcases List.mem_cons.mp hf with e | e
    · subst e
      exact ⟨.inl nG, upd_same⟩
    · obtain ⟨a, b⟩ := R.fo f (List.mem_cons_of_mem _ e)
      exact ⟨a, by rw [upd_ne (show f.1 ≠ q from fun z => nf.1 (List.mem_map.mpr ⟨f, e, z⟩))]; exact b⟩
  · rcases List.mem_cons.mp hf with e | e
    · subst e
      exact np
    · exact R.sp f (List.mem_cons_of_mem _ e)
theorem Rl.popF {xs : List V} {ds : List Dt} (R : Rl G ((q, .lst xs) :: fr) ps ce H) (hx : Iss G xs ds) : Up G ps G (ps ++ [q]) ∧ Rl G fr (ps ++ [q]) (ce ++ [.own ds]) H ∧ (ps ++ [q])[ce.length]? = some q := by
  obtain ⟨nG', hq⟩ := R.fo _ List.mem_cons_self
  have nG : G q = none := nG'.elim id fun ⟨ts, e⟩ => nomatch e
  have np : q ∉ ps := R.sp _ List.mem_cons_self
  have nf := R.nf
  rw [List.map_cons, List.nodup_cons] at nf
  refine ⟨⟨Ex.rfl', List.prefix_append _ _⟩, ⟨R.ex, by rw [List.length_append, List.length_append, R.ln]; rfl, ?_, fun k p c h1 h2 => ?_, fun f hf => R.fo f (List.mem_cons_of_mem _ hf), nf.2, fun f hf hm => ?_⟩, by rw [← R.ln]; exact get_last _ _⟩
  · exact List.nodup_append.mpr ⟨R.nd, List.nodup_cons.mpr ⟨List.not_mem_nil, List.nodup_nil⟩, fun a ha b hb e => by
      rw [List.mem_singleton] at hb
      subst hb
      subst e
      exact np ha⟩
  · rcases get_snoc h1 with h1 | ⟨k1, rfl⟩
    · rcases get_snoc h2 with h2 | ⟨k2, rfl⟩
      · exact R.ce k p c h1 h2
      · have := (List.getElem?_eq_some_iff.mp h1).1
        rw [R.ln] at this
        omega
    · rcases get_snoc h2 with h2 | ⟨k2, rfl⟩
      · have := (List.getElem?_eq_some_iff.mp h2).1
        rw [← R.ln] at this
        omega
      · exact ⟨nG, xs, hq, hx⟩
  · rcases List.mem_append.mp hm with h | h
    · exact R.sp f (List.mem_cons_of_mem _ hf) h
    · rw [List.mem_singleton] at h
      exact nf.1 (List.mem_map.mpr ⟨f, hf, h⟩)
/-- the first cells alone -/
theorem Rl.take (R : Rl G fr ps ce H) (n : Nat) : Rl G fr (ps.take n) (ce.take n) H := ⟨R.ex, by rw [List.length_take, List.length_take, R.ln], R.nd.sublist (List.take_sublist _ _), fun k p c h1 h2 => (by
  rw [List.getElem?_take] at h1 h2
  split at h1
  · rename_i c
    rw [if_pos c] at h2
    exact R.ce k p _ h1 h2
  · cases h1), R.fo, R.nf, fun f hf hm => R.sp f hf (List.mem_of_mem_take hm)⟩
end
/-- targets of a comprehension: nothing but the slots of vs -/
def SV (vs : List Nat) (t : L2.TG) : Prop := ∀ v σ H Q Q', t v σ H Q → (∀ σ' H', wipe σ' vs = wipe σ vs → Q σ' H' → Q' σ' H') → t v σ H Q'
def SVs (vs : List Nat) (t : TGs) : Prop := ∀ us σ H Q Q', t us σ H Q → (∀ σ' H', wipe σ' vs = wipe σ vs → Q σ' H' → Q' σ' H') → t us σ H Q'
def CG {ι : Type} (F : ι → Cx) (e : Expr) (vs : List Nat) (x : XG) : Prop := ∃ t, (∀ i, PG (F i) e t) ∧ SG t x ∧ SV vs t
def CGs {ι : Type} (F : ι → Cx) (es : List Expr) (vs : List Nat) (x : XGs) : Prop := ∃ t, (∀ i, PGs (F i) es t) ∧ SGs t x ∧ SVs vs t
theorem wipe_set : ∀ {vs : List Nat} {σ : L2.St} {i : Nat} {o : Option V}, i ∈ vs → wipe (σ.set i o) vs = wipe σ vs
  | [], _, _, _, h => absurd h List.not_mem_nil
  | v :: vs, σ, i, o, h => by
    show (wipe (σ.set i o) vs).set v none = (wipe σ vs).set v none
    rcases List.mem_cons.mp h with e | e
    · subst e
      refine List.ext_getElem? fun j => ?_
      rw [List.getElem?_set, List.getElem?_set, wipe_length, wipe_length, List.length_set]
      split
      · rfl
      · rename_i n
        have key : ∀ vs : List Nat, (wipe (σ.set i o) vs)[j]? = (wipe σ vs)[j]? := by
          intro vs
          induction vs with
          | nil => show (σ.set i o)[j]? = σ[j]?; rw [List.getElem?_set_ne n]
          | cons w vs ih =>
            show ((wipe (σ.set i o) vs).set w none)[j]? = ((wipe σ vs).set w none)[j]?
            rw [List.getElem?_set, List.getElem?_set, wipe_length, wipe_length, List.length_set, ih]
        exact key vs
    · rw [wipe_set e]
theorem wipe_idem : ∀ (vs : List Nat) (σ : L2.St), wipe (wipe σ vs) vs = wipe σ vs := by
  intro vs
  have gone : ∀ (us : List Nat) (σ : L2.St) (i : Nat), i ∈ us → i < σ.length → (wipe σ us)[i]? = some none := by
    intro us
    induction us with
    | nil => exact fun σ i h => absurd h List.not_mem_nil
    | cons w us ih =>
      intro σ i h hl
      show ((wipe σ us).set w none)[i]? = some none
      rw [List.getElem?_set, wipe_length]
      split
      · rename_i e
        subst e
        rw [if_pos hl]
      · rename_i n
        exact ih σ i ((List.mem_cons.mp h).resolve_left fun e => n e.symm) hl
  have out : ∀ (us : List Nat) (σ : L2.St) (i : Nat), i ∉ us → (wipe σ us)[i]? = σ[i]? := by
    intro us
    induction us with
    | nil => exact fun σ i h => rfl
    | cons w us ih =>
      intro σ i h
      show ((wipe σ us).set w none)[i]? = σ[i]?
      rw [List.getElem?_set_ne fun e => h (by rw [e]; exact List.mem_cons_self), ih σ i fun z => h (List.mem_cons_of_mem _ z)]
  intro σ
  refine List.ext_getElem? fun i => ?_
  by_cases h : i ∈ vs
  · by_cases hl : i < σ.length
    · rw [gone vs _ i h (by rw [wipe_length]; exact hl), gone vs _ i h hl]
    · rw [List.getElem?_eq_none (by rw [wipe_length, wipe_length]; omega), List.getElem?_eq_none (by rw [wipe_length]; omega)]
  · rw [out vs _ i h]
def wipeL (sl : List (Option Rf)) (vs : List Nat) : List (Option Rf) := vs.foldr (fun v l => l.set v none) sl
abbrev BlkI (ι : Type) := ι × Shared × Hp × Addr × List (Str × Addr) × List Addr
def blkF {ι : Type} (F : ι → Cx) (sc : Scope) : BlkI ι → Cx := fun z => (F z.1).blk z.2.1 z.2.2.1 sc (compEnvC sc z.2.2.2.2.1 z.2.2.2.1 (F z.1).env) z.2.2.2.2.2
def DTs {ι : Type} (F : ι → Cx) (es : List Expr) (d : XT) : Prop := ∃ t, (∀ i, PTs (F i) es t) ∧ ST t d
def yesD : XT := fun s Q => Q true s.ce
/-- a comprehension over these items, by what holds at each turn -/
@[irreducible] def compB (g : XG) (tt : XT) (te : XE) (vs : List Nat) (sl : List (Option Rf)) (items : List Dt) (keep : List Cl → Prop) (ce : List Cl) (Q : XQ) : Prop := items.length < 100000 ∧ ∃ I : Nat → List Dt → List Cl → Prop, I 0 [] ce ∧ (∀ i acc c, i ≤ items.length → I i acc c → keep c) ∧
  (∀ i t acc c, items[i]? = some t → acc.length ≤ i → I i acc c → g (.d t) ⟨wipeL sl vs, c⟩ fun s1 => tt s1 fun b c2 => if b = true then te ⟨s1.sl, c2⟩ fun r c3 => frz1 r c3 fun t' c4 => I (i + 1) (acc ++ [t']) (c4.take ce.length) else I (i + 1) acc (c2.take ce.length)) ∧
  ∀ acc c, I items.length acc c → Q (.c c.length) (c ++ [.own acc])
/-- [te for g in wi if tt] -/
def compD (wi : XI) (g : XG) (tt : XT) (te : XE) (vs : List Nat) : XE := fun s Q => wi s fun items keep m ce => compB g tt te vs s.sl items keep ce Q
section
variable {ι : Type} {F : ι → Cx} {K : PySem.W.Frag} {e elt tg iter : Expr} {es ifs : List Expr} {pos : Pos} {x : XG} {y : XGs} {nm : Str} {vs : List Nat} {wi : XI} {g : XG} {tt : XT} {te : XE}
theorem cg_name (i : Nat) (hN : ∀ j, (F j).N.Nodup) (hi : ∀ j, (F j).N[i]? = some nm) (hx : ∀ j, Loc (F j).env.scope nm) (hf : ∀ j, (F j).fn nm = true ∨ (F j).env.scope.names.lookup nm = some .local := by first | exact fun _ => .inl rfl | exact fun _ => .inr rfl) (hv : i ∈ vs := by decide) : CG F (.Name nm pos) vs (nameD i) :=
  ⟨_, fun j => pg_name (i := i) (hN j) (hi j) (hx j) (hf j), sg_name i, fun v σ H Q Q' h f => f _ _ (wipe_set hv) h⟩
theorem cgs_nil : CGs F [] vs nilG := by
  refine ⟨_, fun _ => pgs_nil, ?_, fun us σ H Q Q' h f => ⟨h.1, f _ _ rfl h.2⟩⟩
  exact fun G fr ps0 ps s σ H vs ts Q Qd hp R L o h f => by
    unfold nilG at h
    split at h
    · have : vs = [] := List.eq_nil_of_length_eq_zero o.1
      subst this
      exact ⟨rfl, f s G ps σ H h Ex.rfl' hp R L⟩
    · exact h.elim
theorem cgs_cons (h1 : CG F e vs x) (h2 : CGs F es vs y) (hs : ∀ j, (assignEach (e :: es) (F j).env).map (·.2) = assign e (F j).env :: (assignEach es (F j).env).map (·.2) := by intro _; rfl) : CGs F (e :: es) vs (consG x y) := by
  obtain ⟨t, p, sx, vx⟩ := h1
  obtain ⟨u, q, sy, vy⟩ := h2
  refine ⟨_, fun j => pgs_cons (p j) (q j) (hs j), fun G fr ps0 ps s σ H vs ts Q Qd hp R L o h f => ?_, fun us σ H Q Q' h f => ?_⟩
  · unfold consG at h
    split at h
    · cases vs with
      | nil => cases o.1
      | cons v vs =>
        refine ⟨v, vs, rfl, sx G fr ps0 ps s σ H v _ _ _ hp R L (show RfOk G ps v (.d _) from o.head) h fun s1 G1 ps1 σ1 H1 q1 e1 p1 R1 L1 => ?_⟩
        exact sy G1 fr ps0 ps1 s1 σ1 H1 vs _ Q Qd p1 R1 L1 (o.rest.ex e1) q1 (f.up e1)
    · exact h.elim
  · obtain ⟨v, r, rfl, h⟩ := h
    exact ⟨v, r, rfl, vx v σ H _ _ h fun σ1 H1 e1 h1 => vy r σ1 H1 _ _ h1 fun σ2 H2 e2 h2 => f σ2 H2 (e2.trans e1) h2⟩
theorem cg_tup {k n : Nat} (hc : ∀ j, (F j).calm = true) (h : CGs F es vs y) (hn : ∀ j, (assignEach es (F j).env).length = n := by intro _; rfl) (hst : ∀ j, (assignEach es (F j).env).findIdx? (·.1) = none := by intro _; rfl) (hK : ∀ j, (F j).K = K := by intro _; rfl) : CG F (.Tuple es k pos) vs (tupG n y) := by
  obtain ⟨t, p, sx, vx⟩ := h
  refine ⟨gTup K n t, fun j => ?_, fun G fr ps0 ps s σ H v r Q Qd hp R L o h f => ?_, fun v σ H Q Q' h f => ?_⟩
  · have := hK j
    subst this
    exact pg_tup (hc j) (p j) (hn j) (hst j)
  · unfold tupG at h
    split at h
    · obtain ⟨a, xs, rfl, h1, h2⟩ := Is.inT o
      exact ⟨a, xs, rfl, Evl.st_of (R.ex _ _ h1), by rw [h2.1]; exact h.1, sx G fr ps0 ps s σ H xs _ Q Qd hp R L h2 h.2 f⟩
    · exact h.elim
  · obtain ⟨a, xs, rfl, h1, h2, h⟩ := h
    exact ⟨a, xs, rfl, h1, h2, vx xs σ H _ _ h f⟩
theorem dts_nil : DTs F [] yesD := ⟨_, fun _ => pts_nil, fun G fr ps s σ H Q Qd R L h f => f _ _ G ps H _ h .rfl' R rfl⟩
theorem dts_one {dA : XT} (h : DT F e dA) : DTs F [e] dA := let ⟨_, p, s⟩ := h; ⟨_, fun j => pts_one (p j), s⟩
theorem SE.lc {ti : L2.TI} {t : L2.TG} {u : TT} {w : TE} (si : SI ti wi) (sg : SG t g) (sv : SV vs t) (su : ST u tt) (sw : SE w te) : SE (tLc ti t u w vs) (compD wi g tt te vs) := fun G fr ps s σ H Q Qd R L h f => by
  refine si G fr ps s σ H _ _ R L h fun items keep m ce G1 ps1 H1 J q u1 R1 hm wk => ?_
  unfold compB at q
  obtain ⟨hsz, I, h0, hk, hs, hd⟩ := q
  intro D hD
  have L1 := (L.up u1).wipe vs
  have lw : ∀ {c : List Cl} {ps' : List Addr} {G' H' : Hp} {fr' : List (Addr × HO)}, ps1 <+: ps' → Rl G' fr' ps' c H' → Rl G' fr' ps1 (c.take ce.length) H' := fun {c ps' G' H' fr'} p R' => by
    have := R'.take ce.length
    rw [show ps'.take ce.length = ps1 from by rw [← R1.ln]; exact (List.prefix_iff_eq_take.mp p).symm] at this
    exact this
  refine ⟨fun i m H' => ∃ G' acc xs c, m = items.length - i ∧ i ≤ items.length ∧ acc.length ≤ i ∧ Ex G1 G' ∧ Rl G' ((D, .lst xs) :: fr) ps1 c H' ∧ Iss G' xs acc ∧ I i acc c, ⟨items.length, G1, [], [], ce, rfl, Nat.zero_le _, Nat.le_refl _, Ex.rfl', R1.pushF hD, .nil, h0⟩, ?_⟩
  rintro i m' H' ⟨G', acc, xs, c, rfl, hi, la, e', R', hx, hI⟩
  by_cases hlt : i < items.length
  · have pm : ps1.take m <+: ps1 := List.take_prefix _ _
    refine .inr ⟨wk.goes i G' _ ps1 c H' hlt e' pm R' (hk i acc c hi hI), fun H2 => ∃ G' acc xs c, i + 1 ≤ items.length ∧ acc.length ≤ i + 1 ∧ Ex G1 G' ∧ Rl G' ((D, .lst xs) :: fr) ps1 c H2 ∧ Iss G' xs acc ∧ I (i + 1) acc c, fun H2 z => ?_, fun x H2 y => ?_⟩
    · obtain ⟨G2, acc2, xs2, c2, a1, a2, a3, a4, a5, a6⟩ := z
      exact ⟨items.length - (i + 1), by omega, G2, acc2, xs2, c2, rfl, a1, a2, a3, a4, a5, a6⟩
    · obtain ⟨G2, e2, R2, ht⟩ := wk.yields i _ G' _ ps1 c H' x H2 (List.getElem?_eq_getElem hlt) e' pm R' (hk i acc c hi hI) y
      have L2 := L1.up (⟨e'.trans e2, List.prefix_rfl⟩ : Up G1 ps1 G2 ps1)
      refine sv x _ H2 _ _ (sg G2 ((D, .lst xs) :: fr) ps1 ps1 ⟨wipeL s.sl vs, c⟩ (wipe σ vs) H2 x (.d items[i]) (fun σ2 H2 => _) _ List.prefix_rfl R2 L2 (show RfOk G2 ps1 x (.d _) from ht) (hs i _ acc c (List.getElem?_eq_getElem hlt) la hI) fun s3 G3 ps3 σ3 H3 q3 e3 p3 R3 L3 => su G3 _ ps3 s3 σ3 H3 _ _ R3 L3 q3 ?_) fun σ3 H3 ew k3 => ⟨by rw [ew, wipe_idem], k3⟩
      intro b c2 G4 ps4 H4 b' q4 u4 R4 kb
      obtain rfl : b' = b := kb
      have e4 : Ex G1 G4 := ((e'.trans e2).trans e3).trans u4.ex
      have p4 := p3.trans u4.pre
      have hx4 := hx.ex ((e2.trans e3).trans u4.ex)
      cases b' with
      | false => exact ⟨G4, acc, xs, _, hlt, by omega, e4, lw p4 R4, hx4, q4⟩
      | true =>
        refine sw G4 _ ps4 ⟨s3.sl, c2⟩ σ3 H4 _ _ R4 (L3.up u4) q4 fun r c3 G5 ps5 H5 v q5 u5 R5 o5 => ?_
        obtain ⟨G6, t6, c6, q6, u6, R6, i6⟩ := frz_one R5 o5 q5
        have e6 := (e4.trans u5.ex).trans u6.ex
        have hx6 := hx4.ex (u5.ex.trans u6.ex)
        refine ⟨xs, (R6.fo _ List.mem_cons_self).2, szl (by rw [hx.1]; omega), G6, acc ++ [t6], xs ++ [v], _, hlt, by rw [List.length_append, List.length_singleton]; omega, e6, ((lw (p4.trans u5.pre) R6).setF fun _ e => nomatch e), hx6.snoc i6, q6⟩
  · have e : i = items.length := by omega
    subst e
    refine .inl ⟨wk.stops G' _ ps1 c H' e' (List.take_prefix _ _) R' (hk _ acc c hi hI), ?_⟩
    obtain ⟨u2, R2, hD2⟩ := R'.popF hx
    exact f _ _ G' _ H' _ (hd acc c hI) ((u1.trans ⟨e', List.prefix_rfl⟩).trans u2) R2 ⟨D, rfl, hD2⟩
variable {sc : Scope} {own : List (Str × Nat)}
theorem de_lc (hc : ∀ j, (F j).calm = true) (hN : ∀ j, (F j).N.Nodup) (hi : DI F tg iter wi) (ok : ∀ j, BlkOk (F j).N (F j).env.scope sc own) (hg : CG (blkF F sc) tg (own.map (·.2)) g) (ht : DTs (blkF F sc) ifs tt) (he : DE (blkF F sc) elt te) (hs : ∀ j x, foldedSetIterable iter (F j).env x = pure x := by intro _ _; rfl) :
    DE F (.ListComp elt [⟨tg, iter, ifs, 0⟩] sc pos) (compD wi g tt te (own.map (·.2))) := by
  obtain ⟨ti, p1, s1⟩ := hi
  obtain ⟨t, p2, s2, v2⟩ := hg
  obtain ⟨u, p3, s3⟩ := ht
  obtain ⟨w, p4, s4⟩ := he
  exact ⟨_, fun j => pe_lc (hc j) (hN j) (p1 j) (ok j) (fun s H C cl fp => p2 (j, s, H, C, cl, fp)) (fun s H C cl fp => p3 (j, s, H, C, cl, fp)) (fun s H C cl fp => p4 (j, s, H, C, cl, fp)) (hs j), .lc s1 s2 v2 s3 s4⟩
theorem ds_setLc (i : Nat) {py : Pos} {spos : Pos} (hc : ∀ j, (F j).calm = true) (hN : ∀ j, (F j).N.Nodup) (hy : ∀ j, (F j).N[i]? = some nm) (hyl : ∀ j, (F j).env.scope.names.lookup nm = some .local)
    (hsw : ∀ j, swapsWith (.ListComp elt [⟨tg, iter, ifs, 0⟩] sc pos) (some (.Name nm py)) spos.line (F j).env = pure true) (hi : DI F tg iter wi) (ok : ∀ j, BlkOk (F j).N (F j).env.scope sc own) (hg : CG (blkF F sc) tg (own.map (·.2)) g) (ht : DTs (blkF F sc) ifs tt) (he : DE (blkF F sc) elt te) (hs : ∀ j x, foldedSetIterable iter (F j).env x = pure x := by intro _ _; rfl) :
    DS F (.Assign [.Name nm py] (.ListComp elt [⟨tg, iter, ifs, 0⟩] sc pos) spos) (asgD (compD wi g tt te (own.map (·.2))) (nameD i)) := by
  obtain ⟨ti, p1, s1⟩ := hi
  obtain ⟨t, p2, s2, v2⟩ := hg
  obtain ⟨u, p3, s3⟩ := ht
  obtain ⟨w, p4, s4⟩ := he
  exact ⟨_, fun j => ps_setLc (i := i) (hc j) (hN j) (hy j) (hyl j) (hsw j) (p1 j) (ok j) (fun s H C cl fp => p2 (j, s, H, C, cl, fp)) (fun s H C cl fp => p3 (j, s, H, C, cl, fp)) (fun s H C cl fp => p4 (j, s, H, C, cl, fp)) (hs j), SE.asg (.lc s1 s2 v2 s3 s4) (sg_name i)⟩
end
/-- a comprehension that draws nothing -/
theorem comp_filt {α : Type} {g : XG} {tt : XT} {te : XE} {vs : List Nat} {sl : List (Option Rf)} {xs : List α} {h : α → Dt} {keep : List Cl → Prop} {ce : List Cl} {Q : XQ} (p : α → Bool) (f : α → Dt) (l : xs.length < 100000) (hk : keep ce)
    (hs : ∀ x ∈ xs, ∀ (R : XQ) (N : List Cl → Prop), (p x = true → R (.d (f x)) ce) → (p x = false → N ce) → g (.d (h x)) ⟨wipeL sl vs, ce⟩ fun s1 => tt s1 fun b c2 => if b = true then te ⟨s1.sl, c2⟩ R else N c2)
    (q : Q (.c ce.length) (ce ++ [.own ((xs.filter p).map f)])) : compB g tt te vs sl (xs.map h) keep ce Q := by
  unfold compB
  rw [List.length_map]
  refine ⟨l, fun i acc c => acc = ((xs.take i).filter p).map f ∧ c = ce, ⟨rfl, rfl⟩, fun i acc c _ hI => by rw [hI.2]; exact hk, fun i t acc c hi _ hI => ?_, fun acc c hI => ?_⟩
  · obtain ⟨rfl, rfl⟩ := hI
    rw [List.getElem?_map] at hi
    cases e : xs[i]? with
    | none => rw [e] at hi; cases hi
    | some x =>
      rw [e] at hi
      cases hi
      refine hs x (List.mem_of_getElem? e) _ _ (fun hp => ?_) (fun hp => ?_)
      · exact ⟨by rw [take_snoc e, List.filter_append, List.filter_cons_of_pos hp, List.filter_nil, List.map_append]; rfl, List.take_length⟩
      · exact ⟨by rw [take_snoc e, List.filter_append, List.filter_cons_of_neg (by rw [hp]; exact Bool.false_ne_true), List.filter_nil, List.append_nil], List.take_length⟩
  · obtain ⟨rfl, rfl⟩ := hI
    rw [List.take_length]
    exact q
theorem comp_map {α : Type} {g : XG} {te : XE} {vs : List Nat} {sl : List (Option Rf)} {xs : List α} {h : α → Dt} {keep : List Cl → Prop} {ce : List Cl} {Q : XQ} (f : α → Dt) (l : xs.length < 100000) (hk : keep ce) (hs : ∀ x ∈ xs, ∀ R : XQ, R (.d (f x)) ce → g (.d (h x)) ⟨wipeL sl vs, ce⟩ fun s1 => te s1 R)
    (q : Q (.c ce.length) (ce ++ [.own (xs.map f)])) : compB g yesD te vs sl (xs.map h) keep ce Q := by
  refine comp_filt (fun _ => true) f l hk (fun x hx R N hR _ => ?_) ?_
  · exact hs x hx R (hR rfl)
  · rw [List.filter_eq_self.mpr fun _ _ => rfl]
    exact q
theorem comp_rngF {g : XG} {tt : XT} {te : XE} {vs : List Nat} {sl : List (Option Rf)} {n : Nat} {ce : List Cl} {Q : XQ} (p : Nat → Bool) (f : Nat → Dt) (l : n < 100000)
    (hs : ∀ x, x < n → ∀ (R : XQ) (N : List Cl → Prop), (p x = true → R (.d (f x)) ce) → (p x = false → N ce) → g (.d (.int (x : Nat))) ⟨wipeL sl vs, ce⟩ fun s1 => tt s1 fun b c2 => if b = true then te ⟨s1.sl, c2⟩ R else N c2)
    (q : Q (.c ce.length) (ce ++ [.own (((List.range n).filter p).map f)])) : compB g tt te vs sl (rngL 0 ((n : Nat) : Int).toNat) (fun _ => True) ce Q := by
  rw [rng0]
  exact comp_filt p f (by rw [List.length_range]; exact l) trivial (fun x hx => hs x (List.mem_range.mp hx)) q
theorem comp_rng {g : XG} {te : XE} {vs : List Nat} {sl : List (Option Rf)} {n : Nat} {ce : List Cl} {Q : XQ} (f : Nat → Dt) (l : n < 100000) (hs : ∀ x, x < n → ∀ R : XQ, R (.d (f x)) ce → g (.d (.int (x : Nat))) ⟨wipeL sl vs, ce⟩ fun s1 => te s1 R)
    (q : Q (.c ce.length) (ce ++ [.own ((List.range n).map f)])) : compB g yesD te vs sl (rngL 0 ((n : Nat) : Int).toNat) (fun _ => True) ce Q := by
  rw [rng0]
  exact comp_map f (by rw [List.length_range]; exact l) trivial (fun x hx => hs x (List.mem_range.mp hx)) q
end TD
set_option Elab.async false
set_option linter.all false
set_option maxRecDepth 100000
set_option maxHeartbeats 1000000
/-! promises that hold where no repr is under way (guards = some []) -/
namespace TD
open PySem PySem.Spec PyProof.Rows L2 TW
def Calm0 (A : Around) : Prop := A.guards = some []
structure FnG (P : Program) (w : World) (K : PySem.W.Frag) (mg : Str → Option Value) (base : Heap) (k : Nat) (f : Addr) (fd : FuncData) (ps : List Str) (sp : Sp) : Prop where
  len : ∀ vs H Q E, sp vs H Q E → vs.length = ps.length
  run : ∀ {A : Around} {outer : List Env} {s : Shared} {H : Hp} {args : Args} {us : List Value} {vs : List V} {Q : VK} {E : XK}, Calm0 A → Room k A → Env0 P w K mg base A outer s H → BindsTo s fd args (ps.zip us) → Vals vs us → sp vs H Q E →
    codeAny (model P w) A (.call (.ref f) args) (CR CX0 outer P w H s Q E) s
section
variable {P : Program} {w : World} {K : PySem.W.Frag} {mg : Str → Option Value} {base : Heap} {k j : Nat} {f : Addr} {fd : FuncData} {ps : List Str} {sp sp' : Sp}
theorem FnG.of (F : FnOk P w K mg base CX0 k f fd ps sp) : FnG P w K mg base k f fd ps sp := ⟨F.len, fun _ r e b v h => F.run _ _ _ _ _ _ _ _ _ r e b v h⟩
theorem FnG.mono (F : FnG P w K mg base j f fd ps sp) (h : j ≤ k) : FnG P w K mg base k f fd ps sp := ⟨F.len, fun c r e b v h' => F.run c (r.mono h) e b v h'⟩
theorem FnG.imp (F : FnG P w K mg base k f fd ps sp) (h : ∀ vs H Q E, sp' vs H Q E → sp vs H Q E) : FnG P w K mg base k f fd ps sp' := ⟨fun vs H Q E q => F.len vs H Q E (h _ _ _ _ q), fun c r e b v h' => F.run c r e b v (h _ _ _ _ h')⟩
/-- a def by its body -/
theorem fn_g {x qual : Str} {st : Stmt} {N : List Str} (D : Fun K x qual st f fd) (S : FnScope N ps (defScope st)) (hl : ∀ vs H Q E, sp vs H Q E → vs.length = ps.length)
    (hb : ∀ (cdv : Value) (A : Around) (outer : List Env) (s : Shared) (H : Hp) (vs : List V) (Q : VK) (E : XK), Calm0 (A.deeper (envOfC qual (defScope st) s.heap.objs.size f cdv)) → Room k (A.deeper (envOfC qual (defScope st) s.heap.objs.size f cdv)) → sp vs H Q E →
      ∃ t, PSs (cxOf CX0 P w K mg base N qual (defScope st) f cdv A outer s H E).nox (defBody st) t ∧ t { nx := fun _ H' => Q .non H', rt := Q } (start N vs) H) : FnG P w K mg base (k + 1) f fd ps sp := by
  obtain ⟨oc, od, kV, doc, pm, an, cdv, ct, osl, rfl, lk, hcd⟩ := D.ex
  refine ⟨hl, fun {A outer s H args us vs Q E} calm room en bd rv hsp => ?_⟩
  have up : ∀ {b : Addr} {o : Obj}, base.get? b = some o → s.heap.get? b = some o := fun {b o} e => (en.bs b o e).1
  have inK : K.In s.heap := en.mod.kin.keeps fun b o e => up e
  have kinds : ∀ y ∈ ps.zip us, (defScope st).names.lookup y.1 = some .local ∨ ((defScope st).names.lookup y.1 = some .cell ∧ ((cellsFrom (s.heap.objs.size + 1) (defScope st).names []).lookup y.1).isSome = true) := by
    rintro ⟨n, v⟩ hy
    exact (S.par n (List.of_mem_zip hy).1).imp id fun q => ⟨q, PySem.W.cellsFrom_some _ _ _ (.inl q)⟩
  refine codeAny_call_function room.depth (inK _ _ lk) rfl S.co S.gen rfl (PySem.W.codeRec_of inK hcd) (bd _ _ _ _ (wpAny_newFunctionEnv_cells S.kind kinds fun env he s1 x => ?_))
  subst he
  refine ⟨(en.mod.nolimit.keeps fun b o e => up e).keeps x.toInCall.keep, codeAny_func ?_⟩
  obtain ⟨t, ht, hq⟩ := hb cdv A outer s H vs Q E calm (room.deeper _) hsp
  refine wpAny_mono (ht.nox.run [] s1 (start N vs) H _ (inv_start S room.hd en (hl _ _ _ _ hsp) rv x) hq) (fun fl s' hs => ?_) fun e s' hs => hs
  cases fl with
  | next =>
    obtain ⟨σ', H', J, q⟩ := hs
    exact ⟨.non, H', J.os, J.bare, J.base, J.hok, rfl, q⟩
  | ret u =>
    obtain ⟨v, σ', H', J, r', q⟩ := hs
    exact ⟨v, H', J.os, J.bare, J.base, J.hok, r', q⟩
  | brk => exact hs.elim fun _ h => h.elim fun _ h => h.2.elim
  | cont => exact hs.elim fun _ h => h.elim fun _ h => h.2.elim
end
section
variable {X : Cx} {k : Nat} {f : Addr} {fd : FuncData} {ps : List Str} {sp : Sp} {x : Str} {p pos : Pos} {e : Expr} {es : List Expr} {t tk : TA}
theorem run_g {pins : List (Addr × Obj)} {σ : L2.St} {H : Hp} {s : Shared} {Q : VK} {us : List Value} {vs : List V} (F : FnG X.prog X.w X.K X.mg X.base k f fd ps sp) (hc : Calm0 X.A) (hr : Room k X.A) (hb : Binds X.K fd ps []) (I : Inv X pins σ H s) (r : Vals vs us) (h : sp vs H Q E0) :
    wpAny (model X.prog X.w) X.A (call (.ref f) us) (EP X pins σ Q) X.xe s := by
  have bd := hb s us I.kIn (by rw [List.append_nil, ← r.length]; exact F.len _ _ _ _ h)
  rw [List.append_nil] at bd
  refine wpAny_call (codeAny_mono (F.run (outer := X.stack) hc hr I.env0 bd r h) fun res s' q => ?_)
  match res, q with
  | .error e, q => exact q.elim
  | .ok (.ret u), q => exact I.after q
  | .ok .next, q => exact q.elim
  | .ok .brk, q => exact q.elim
  | .ok .cont, q => exact q.elim
theorem pe_g (F : FnG X.prog X.w X.K X.mg X.base k f fd ps sp) (hc : Calm0 X.A) (hr : Room k X.A) (hg : Gl X x) (hm : X.mg x = some (.ref f)) (hk : PySem.W.keepIn X.K (.ref f) = true) (hb : Binds X.K fd ps []) (ha : PA X (e :: es) t) (hdb : (x == ("__debug__" : Str)) = false := by decide)
    (he : starEach (e :: es) X.env = (false, eval e X.env) :: starEach es X.env := by rfl) (hpl : (backTo pos (starEach es X.env)).any (·.1) = false := by rfl) : PE X (.Call (.Name x p) (e :: es) [] pos) (tCall sp [] E0 t) :=
  ⟨fun pins s σ H Q I h => wpAny_Call_Name_kw (ld_glob I hg hm (PySem.W.callWith_K (h₀ := X.base) I.ok.mod.kin hk (thn (ha.run pos pins s σ H _ I h) fun us s1 ⟨vs, H1, I1, r, q⟩ => ⟨I1.kIn, run_g F hc hr hb I1 r (by have q : sp (vs ++ []) H1 Q E0 := q; rw [List.append_nil] at q; exact q)⟩) he hpl) hdb)⟩
theorem pe_g0 (F : FnG X.prog X.w X.K X.mg X.base k f fd ps sp) (hc : Calm0 X.A) (hr : Room k X.A) (hg : Gl X x) (hm : X.mg x = some (.ref f)) (hk : PySem.W.keepIn X.K (.ref f) = true) (hb : Binds X.K fd ps []) (hdb : (x == ("__debug__" : Str)) = false := by decide) :
    PE X (.Call (.Name x p) [] [] pos) (tCall sp [] E0 tNil) :=
  ⟨fun pins s σ H Q I h => wpAny_Call_Name_kw (ld_glob I hg hm (PySem.W.callWith_K0 I.kIn hk (run_g (us := []) F hc hr hb I .nil (by have h : sp ([] ++ []) H Q E0 := h; exact h))) hdb)⟩
end
/-! the law's own call -/
theorem law_g {P : Program} {w : World} {K : PySem.W.Frag} {mg mb : Str → Option Value} {k : Nat} {fa a : Addr} {fd : FuncData} {x : Str} {sp : Sp} {s₁ : Shared} {vs : List Value} {ns : List Int} (kin : K.In s₁.heap) (nsm : s₁.heap.Ns mainGlobals mg) (nsb : s₁.heap.Ns builtinsNs mb) (bbb : ∀ x : Str, x ≠ "__name__" → mb x = bootBuiltins x)
    (nol : s₁.heap.NoLimit) (nog : s₁.gens = #[]) (ha : s₁.heap.get? a = some { cls := .type "list", data := .seq vs.toArray }) (hi : IntsAre vs ns) (hl : ns.length ≤ sizeLine) (hr : Room k callerA) (F : ∀ base : Heap, K.In base → base.Ns mainGlobals mg → FnG P w K mg base k fa fd [x] sp)
    (bind : ∀ (s : Shared) (u : Value), BindsTo s fd ⟨[u], []⟩ [(x, u)]) (hsp : ∀ H : Hp, Only H → SqL K H a (ns.map V.int) → sp [.ref a] H (fun v _ => v = .bl true) fun _ _ _ => False) :
    codeAny (model P w) callerA (.call (.ref fa) ⟨[.ref a], []⟩) (fun r s' => r = .ok (.ret (.bool true)) ∧ OldK s₁.heap s'.heap ∧ s'.os = s₁.os ∧ AllBare s'.gens) s₁ := by
  have core : ∀ H : Hp, Only H → SqL K H a (ns.map V.int) → HOk P w H s₁.heap → (∀ b, H b ≠ none → b = a) → (H a ≠ none → K.lookup a = none) → codeAny (model P w) callerA (.call (.ref fa) ⟨[.ref a], []⟩) (fun r s' => r = .ok (.ret (.bool true)) ∧ OldK s₁.heap s'.heap ∧ s'.os = s₁.os ∧ AllBare s'.gens) s₁ := fun H hO hS hok hA hK => by
    have free : ∀ {b : Addr} {o : Obj}, s₁.heap.get? b = some o → b ≠ a → (hidT s₁.heap H).get? b = some o := fun {b o} e n => hidT_get e (by
      by_cases z : H b = none
      · exact z
      · exact absurd (hA b z) n)
    have dict : ∀ {b : Addr} {o : Obj} {es : Array DictEntry} {ep : Nat}, s₁.heap.get? b = some o → o.data = .dict es ep → b ≠ a := fun {b o es ep} e d z => by
      rw [z, ha] at e
      cases e
      exact nomatch (show Data.seq vs.toArray 0 = Data.dict es ep from d)
    have spaces : ∀ {b : Addr} {m : Str → Option Value}, s₁.heap.Ns b m → (hidT s₁.heap H).Ns b m := fun {b m} ⟨o, es, ep, e, d, r⟩ => ⟨o, es, ep, free e (dict e d), d, r⟩
    have kinT : K.In (hidT s₁.heap H) := fun b o e => hidT_get (kin b o e) (by
      by_cases z : H b = none
      · exact z
      · have eb := hA b z
        rw [eb] at z e
        rw [hK z] at e
        cases e)
    have en : Env0 P w K mg (hidT s₁.heap H) callerA [] s₁ H := ⟨rfl, ⟨kinT, spaces nsm, ⟨mb, spaces nsb, bbb⟩, nol.elim fun mc h => ⟨mc, spaces h.1, h.2⟩⟩, fun b o e => of_hidT e, Nat.le_of_eq (hidT_size _ _), trivial, fun b hb => absurd hb List.not_mem_nil, hok, .of_eq nog⟩
    refine codeAny_mono ((F _ kinT (spaces nsm)).run (outer := []) (show Calm0 callerA from rfl) hr en (us := [.ref a]) (bind s₁ (.ref a)) (.cons (show RelV (.ref a) (.ref a) from rfl) .nil) (hsp H hO hS)) fun res s' q => ?_
    match res, q with
    | .error e, q => exact q.elim
    | .ok .next, q => exact q.elim
    | .ok .brk, q => exact q.elim
    | .ok .cont, q => exact q.elim
    | .ok (.ret u), ⟨v, H', os, bare, un, hok', rel, q⟩ =>
      obtain rfl : v = .bl true := q
      obtain rfl : u = Value.bool true := rel
      refine ⟨rfl, OldK.of_keep fun b o e => ?_, os, bare⟩
      rcases hO b with z | ⟨ob, xs, z⟩
      · exact un.keep b o e z List.not_mem_nil List.not_mem_nil
      · have e1 := (hok b _ z).1
        rw [e] at e1
        cases e1
        exact (hok' b _ (un.frzs b _ _ z)).1
  have rv := vals_ints hi
  have lv := hi.length
  cases hk : K.lookup a with
  | some o =>
    have e := kin a o hk
    rw [ha] at e
    cases e
    exact core (fun _ => none) (fun _ => .inl rfl) (.inr ⟨_, vs.toArray, _, hk, rfl, rfl, rfl, by rw [List.size_toArray, lv]; exact hl, by simpa using rv⟩) (fun b u z => nomatch (show (none : Option HO) = some u from z)) (fun b z => absurd rfl z) fun z => absurd rfl z
  | none =>
    have at_ : ∀ {b : Addr} {u : HO}, (if b = a then some (HO.frz { cls := .type "list", data := .seq vs.toArray } (.lst (ns.map V.int))) else none) = some u → b = a ∧ u = .frz { cls := .type "list", data := .seq vs.toArray } (.lst (ns.map V.int)) := fun {b u} z => by
      by_cases hb : b = a
      · rw [if_pos hb] at z
        exact ⟨hb, (Option.some.inj z).symm⟩
      · rw [if_neg hb] at z
        cases z
    refine core (fun b => if b = a then some (.frz { cls := .type "list", data := .seq vs.toArray } (.lst (ns.map V.int))) else none) (fun b => ?_) (.inl (.inr ⟨_, if_pos rfl⟩)) (fun b u z => ?_) (fun b z => ?_) fun _ => hk
    · by_cases hb : b = a
      · exact .inr ⟨_, _, if_pos hb⟩
      · exact .inl (if_neg hb)
    · obtain ⟨rfl, rfl⟩ := at_ z
      exact ⟨ha, by rw [List.length_map]; exact hl, vs, _, rv, ha⟩
    · cases e : (if b = a then some (HO.frz { cls := .type "list", data := .seq vs.toArray } (.lst (ns.map V.int))) else none) with
      | none => exact absurd e z
      | some u => exact (at_ e).1
theorem walk_g {l : PySem.W.OpenLaw} {n k : Nat} {q : Program} {loose : List Str} {XP : (Str → Option Value) → Heap → Prop} {YP : World → Heap → Prop} {d : DefRec} {K : Params → PySem.W.Frag} {sp : World → Sp} {x : Str} (hn : l.most = some n) (hn2 : n ≤ sizeLine) (hdf : d.params.defaults = []) (hr : Room k callerA) (hY : ∀ (w : World) (h : Heap), YP w h → (K w.params).In h)
    (F : ∀ (w : World) (mg : Str → Option Value) (fa : Addr) (h : Heap), (K w.params).In h → h.Ns mainGlobals mg → mg d.name = some (.ref fa) → ∃ fd : FuncData, (∀ (s : Shared) (u : Value), BindsTo s fd ⟨[u], []⟩ [(x, u)]) ∧ ∀ base : Heap, (K w.params).In base → base.Ns mainGlobals mg → FnG l.prog w (K w.params) mg base k fa fd [x] (sp w))
    (hsp : ∀ (w : World) (H : Hp) (a : Addr) (ns : List Int), ns.length ≤ n → (∀ z ∈ ns, Builtin.Int.intBits z ≤ 1048576) → SqL (K w.params) H a (ns.map V.int) → sp w [.ref a] H (fun v _ => v = .bl true) fun _ _ _ => False) : PySem.W.WalkO q loose XP YP l.row.toRowW d [] (fun f vs => PySem.call f vs) := by
  refine Att.attach_callB hn hdf fun w s₀ s₁ mg mb fa o pm cd doc a vs ns G Y ho hd hcd hmg hobj hints hlen hbits hg => ?_
  obtain ⟨fd, hb, hF⟩ := F w mg fa _ (hY w _ Y) G.T.g hmg
  exact law_g (hY w _ Y) G.T.g G.T.b G.T.builtins G.T.nolimit hg hobj hints (Nat.le_trans hlen hn2) hr hF hb fun H _ hS => hsp w H a ns hlen hbits hS
end TD
set_option Elab.async false
set_option linter.all false
set_option maxRecDepth 100000
set_option maxHeartbeats 1000000
/-! defs and their calls -/
namespace TD
open PySem PySem.Spec PyProof.Rows L2 TW
/-- no list in it -/
inductive NoL : Dt → Prop
  | non : NoL .non
  | bl (b) : NoL (.bl b)
  | int (i) : NoL (.int i)
  | str (x) : NoL (.str x)
  | raw (v) : NoL (.raw v)
  | tup {ds : List Dt} (h : ∀ d ∈ ds, NoL d) : NoL (.tup ds)
  | ins {C : Addr} {fs : List (Str × Dt)} (h : ∀ d ∈ fs, NoL d.2) : NoL (.ins C fs)
theorem NoL.keep {d : Dt} (h : NoL d) : ∀ {G G' : Hp} {v : V}, (∀ a o, G a = some o → (∀ xs, o ≠ .lst xs) → G' a = some o) → Is G v d → Is G' v d := by
  induction h with
  | non => exact fun {G G' v} _ q => by cases q; exact .non
  | bl b => exact fun {G G' v} _ q => by cases q; exact .bl b
  | int i => exact fun {G G' v} _ q => by cases q; exact .int i
  | str x => exact fun {G G' v} _ q => by cases q; exact .str x
  | raw x => exact fun {G G' v} _ q => by cases q; exact .raw x
  | @tup ds h ih =>
    intro G G' v k q
    cases q with
    | tup q1 q2 q3 => exact .tup (k _ _ q1 fun xs e => nomatch e) q2 fun i x d h1 h2 => ih d (List.mem_of_getElem? h2) k (q3 i x d h1 h2)
  | @ins C fs h ih =>
    intro G G' v k q
    cases q with
    | ins q1 q2 q3 => exact .ins (k _ _ q1 fun xs e => nomatch e) q2 fun i x d h1 h2 => ih d (List.mem_of_getElem? h2) k (q3 i x d h1 h2)
/-- what stands behind a call as ahead of it: kk the cell that went along -/
structure Back (G : Hp) (fr : List (Addr × HO)) (ps : List Addr) (ce : List Cl) (kk : Option Nat) (free : Prop) (G' H' : Hp) (ps' : List Addr) (G2 : Hp) : Prop where
  gr : Ex G G2
  same : free → G2 = G'
  tree : ∀ a o, G' a = some o → (∀ xs, o ≠ .lst xs) → G2 a = some o
  none_ : ∀ a, G' a = none → G2 a = none
  hp : Ex G2 H'
  cell : ∀ (j : Nat) c p, kk ≠ some j → ce[j]? = some c → ps[j]? = some p → ClOk G2 H' p c
  frm : ∀ f ∈ fr, (G2 f.1 = none ∨ ∃ ts, f.2 = .tup ts) ∧ H' f.1 = some f.2
  new : ∀ q ∈ ps', G' q = none → (∀ (j : Nat), ps[j]? = some q → kk = some j) ∧ ∀ f ∈ fr, f.1 ≠ q
theorem call_frame {G H : Hp} {fr : List (Addr × HO)} {ps : List Addr} {ce : List Cl} (R : Rl G fr ps ce H) (kk : Option Nat) (lent : List Nat) (ll : ∀ k ∈ lent, kk ≠ some k ∧ ∃ ds, ce[k]? = some (.own ds)) (lk : ∀ k ∈ kk, ∃ js, ce[k]? = some (.own js)) :
    ∃ Gp frp, Ex G Gp ∧ Rl Gp frp (kk.toList.filterMap fun k => ps[k]?) (kk.toList.filterMap fun k => ce[k]?) H ∧ (∀ k ∈ lent, ∀ ds p, ce[k]? = some (.own ds) → ps[k]? = some p → Is Gp (.ref p) (.lst ds)) ∧
      ∀ G' ps' cs H', Ex Gp G' → Rl G' frp ps' cs H' → ∃ G2, Back G fr ps ce kk (lent = []) G' H' ps' G2 := by
  generalize hL : (lent.filterMap fun k => ps[k]?) = L
  have inL : ∀ {p : Addr}, p ∈ L → ∃ k ds, k ∈ lent ∧ kk ≠ some k ∧ ps[k]? = some p ∧ ce[k]? = some (.own ds) := fun {p} h => by
    rw [← hL] at h
    obtain ⟨k, hk, e⟩ := List.mem_filterMap.mp h
    obtain ⟨n, ds, hc⟩ := ll k hk
    exact ⟨k, ds, hk, n, e, hc⟩
  have noneL : ∀ {p : Addr}, p ∈ L → G p = none := fun {p} h => by
    obtain ⟨k, ds, _, _, hp, hc⟩ := inL h
    exact (R.ce k p _ hp hc).1
  have frL : ∀ f ∈ fr, f.1 ∉ L := fun f hf h => by
    obtain ⟨k, ds, _, _, hp, hc⟩ := inL h
    exact R.sp f hf (List.mem_of_getElem? hp)
  let Gp : Hp := fun p => if p ∈ L then H p else G p
  have gp1 : ∀ {p : Addr}, p ∈ L → Gp p = H p := fun h => if_pos h
  have gp0 : ∀ {p : Addr}, p ∉ L → Gp p = G p := fun h => if_neg h
  let pk : List Addr := kk.toList.filterMap fun k => ps[k]?
  have inK : ∀ {p : Addr}, p ∈ pk → ∃ k js, kk = some k ∧ ps[k]? = some p ∧ ce[k]? = some (.own js) := fun {p} h => by
    obtain ⟨k, hk, e⟩ := List.mem_filterMap.mp h
    have hk : k ∈ kk := Option.mem_toList.mp hk
    obtain ⟨js, hj⟩ := lk k hk
    exact ⟨k, js, hk, e, hj⟩
  let rest : List Addr := ps.filter fun p => decide (p ∉ L) && decide (p ∉ pk) && (G p).isNone
  let frp : List (Addr × HO) := (rest.filterMap fun p => (H p).map fun o => (p, o)) ++ fr
  have inR : ∀ {f : Addr × HO}, f ∈ (rest.filterMap fun p => (H p).map fun o => (p, o)) → f.1 ∈ ps ∧ f.1 ∉ L ∧ f.1 ∉ pk ∧ G f.1 = none ∧ H f.1 = some f.2 := fun {f} h => by
    obtain ⟨p, hp, e⟩ := List.mem_filterMap.mp h
    obtain ⟨h1, h2⟩ := List.mem_filter.mp hp
    rw [Bool.and_eq_true, Bool.and_eq_true, decide_eq_true_iff, decide_eq_true_iff] at h2
    cases ho : H p with
    | none => rw [ho] at e; cases e
    | some o =>
      rw [ho] at e
      cases e
      refine ⟨h1, h2.1.1, h2.1.2, ?_, ho⟩
      cases g : G p with
      | none => rfl
      | some u => rw [g] at h2; cases h2.2
  have eGp : Ex G Gp := fun a o h => by
    have : a ∉ L := fun z => by rw [noneL z] at h; cases h
    rw [gp0 this]
    exact h
  have RP : Rl Gp frp pk (kk.toList.filterMap fun k => ce[k]?) H := by
    refine ⟨fun a o h => ?_, ?_, ?_, fun j p c h1 h2 => ?_, fun f hf => ?_, ?_, fun f hf hm => ?_⟩
    · by_cases z : a ∈ L
      · rw [gp1 z] at h
        exact h
      · rw [gp0 z] at h
        exact R.ex a o h
    · cases kk with
      | none => rfl
      | some k =>
        obtain ⟨js, hj⟩ := lk k rfl
        have lt := (List.getElem?_eq_some_iff.mp hj).1
        show ([k].filterMap fun k => ps[k]?).length = ([k].filterMap fun k => ce[k]?).length
        rw [fm_len (by intro k' hk'; rw [List.mem_singleton.mp hk', R.ln]; exact lt), fm_len (by intro k' hk'; rw [List.mem_singleton.mp hk']; exact lt)]
    · cases kk with
      | none => exact List.nodup_nil
      | some k =>
        show ([k].filterMap fun k => ps[k]?).Nodup
        cases e : ps[k]? with
        | none => rw [List.filterMap_cons_none e]; exact List.nodup_nil
        | some p => rw [List.filterMap_cons_some e]; exact List.nodup_cons.mpr ⟨List.not_mem_nil, List.nodup_nil⟩
    · cases kk with
      | none => cases h1
      | some k =>
        obtain ⟨js, hj⟩ := lk k rfl
        have h2 : ([k].filterMap fun k => ce[k]?)[j]? = some c := h2
        have h1 : ([k].filterMap fun k => ps[k]?)[j]? = some p := h1
        rw [List.filterMap_cons_some hj] at h2
        cases e : ps[k]? with
        | none => rw [List.filterMap_cons_none e] at h1; cases h1
        | some p' =>
          rw [List.filterMap_cons_some e] at h1
          cases j with
          | succ j => cases h1
          | zero =>
            cases h1
            cases h2
            obtain ⟨a, xs, b, d⟩ := R.ce k p _ e hj
            have nL : p ∉ L := fun z => by
              obtain ⟨k2, ds, hk2, n2, hp2, _⟩ := inL z
              exact n2 (by rw [nodup_at R.nd hp2 e])
            exact ⟨by rw [gp0 nL]; exact a, xs, b, d.ex eGp⟩
    · rcases List.mem_append.mp hf with h | h
      · obtain ⟨_, a, _, b, c⟩ := inR h
        exact ⟨.inl (by rw [gp0 a]; exact b), c⟩
      · exact ⟨by rw [gp0 (frL f h)]; exact (R.fo f h).1, (R.fo f h).2⟩
    · show (((rest.filterMap fun p => (H p).map fun o => (p, o)) ++ fr).map (·.1)).Nodup
      rw [List.map_append]
      refine List.nodup_append.mpr ⟨?_, R.nf, fun a ha b hb e => ?_⟩
      · have sub : ((rest.filterMap fun p => (H p).map fun o => (p, o)).map (·.1)).Sublist rest := by
          generalize rest = l
          induction l with
          | nil => exact List.Sublist.refl _
          | cons p l ih =>
            cases ho : H p with
            | none => rw [List.filterMap_cons_none (by rw [ho]; rfl)]; exact ih.cons _
            | some o => rw [List.filterMap_cons_some (by rw [ho]; rfl), List.map_cons]; exact ih.cons_cons _
        exact (R.nd.sublist List.filter_sublist).sublist sub
      · obtain ⟨f, hf, ef⟩ := List.mem_map.mp ha
        obtain ⟨g, hg, eg⟩ := List.mem_map.mp hb
        exact R.sp g hg (by rw [eg, ← e, ← ef]; exact (inR hf).1)
    · rcases List.mem_append.mp hf with h | h
      · exact (inR h).2.2.1 hm
      · obtain ⟨k, js, _, hp, _⟩ := inK hm
        exact R.sp f h (List.mem_of_getElem? hp)
  refine ⟨Gp, frp, eGp, RP, fun k hk ds p hc hp => ?_, fun G' ps' cs H' e' R' => ⟨fun p => if p ∈ L then none else G' p, ?_⟩⟩
  · obtain ⟨_, xs, a, b⟩ := R.ce k p _ hp hc
    have : p ∈ L := by rw [← hL]; exact List.mem_filterMap.mpr ⟨k, hk, hp⟩
    exact (b.ex eGp).mkL (by rw [gp1 this]; exact a)
  · have g1 : ∀ {p : Addr}, p ∈ L → (if p ∈ L then none else G' p) = none := fun h => if_pos h
    have g0 : ∀ {p : Addr}, p ∉ L → (if p ∈ L then none else G' p) = G' p := fun h => if_neg h
    have notL : ∀ {a : Addr} {o : HO}, G a = some o → a ∉ L := fun {a o} h z => by rw [noneL z] at h; cases h
    have eG2 : Ex G (fun p => if p ∈ L then none else G' p) := fun a o h => by
      show (if a ∈ L then none else G' a) = some o
      rw [g0 (notL h)]
      exact e' a o (eGp a o h)
    refine ⟨eG2, fun hf => ?_, fun a o h n => ?_, fun a h => ?_, fun a o h => ?_, fun j c p n hc hp => ?_, fun f hf => ?_, fun q hq gq => ⟨fun j hj => ?_, fun f hf e => ?_⟩⟩
    · have : L = [] := by rw [← hL, hf]; rfl
      funext p
      show (if p ∈ L then none else G' p) = G' p
      exact g0 (by rw [this]; exact List.not_mem_nil)
    · show (if a ∈ L then none else G' a) = some o
      refine (g0 fun z => ?_).trans h
      obtain ⟨k, ds, _, _, hp, hc⟩ := inL z
      obtain ⟨_, xs, hx, _⟩ := R.ce k a _ hp hc
      have := e' a _ (by rw [gp1 z]; exact hx : Gp a = some (.lst xs))
      rw [h] at this
      exact n xs (Option.some.inj this)
    · show (if a ∈ L then none else G' a) = none
      by_cases z : a ∈ L
      · exact g1 z
      · rw [g0 z]
        exact h
    · have h : (if a ∈ L then none else G' a) = some o := h
      by_cases z : a ∈ L
      · rw [g1 z] at h
        cases h
      · rw [g0 z] at h
        exact R'.ex a o h
    · have h := R.ce j p c hp hc
      have npk : p ∉ pk := fun z => by
        obtain ⟨k, js, ek, hp2, _⟩ := inK z
        exact n (by rw [ek, nodup_at R.nd hp2 hp])
      have stay : p ∉ L → G p = none → ∀ o, H p = some o → (G' p = none ∨ ∃ ts, o = .tup ts) ∧ H' p = some o := fun nl gn o ho => by
        have hf : ((p, o) : Addr × HO) ∈ frp := List.mem_append_left _ (List.mem_filterMap.mpr ⟨p, List.mem_filter.mpr ⟨List.mem_of_getElem? hp, by rw [decide_eq_true nl, decide_eq_true npk, gn]; rfl⟩, by rw [ho]; rfl⟩)
        exact R'.fo _ hf
      have g2 : (p ∉ L → G' p = none) → (if p ∈ L then none else G' p) = none := fun h => by
        by_cases z : p ∈ L
        · exact g1 z
        · rw [g0 z]
          exact h z
      cases c with
      | own ds =>
        obtain ⟨a, xs, b, d⟩ := h
        refine ⟨g2 fun z => (stay z a _ b).1.elim id (fun ⟨_, e⟩ => (nomatch e)), xs, ?_, d.ex eG2⟩
        by_cases z : p ∈ L
        · exact R'.ex _ _ (e' p _ (by rw [gp1 z]; exact b : Gp p = some (.lst xs)))
        · exact (stay z a _ b).2
      | frz ds =>
        obtain ⟨xs, b, d⟩ := h
        exact ⟨xs, eG2 _ _ b, d.ex eG2⟩
      | any o =>
        have nl : p ∉ L := fun z => by
          obtain ⟨k, ds, _, _, hp2, hc2⟩ := inL z
          rw [nodup_at R.nd hp2 hp, hc] at hc2
          cases hc2
        rcases h.1 with gn | ht
        · obtain ⟨s1, s2⟩ := stay nl gn _ h.2
          exact ⟨s1.imp (fun z => g2 fun _ => z) id, s2⟩
        · refine ⟨.inr ht, ?_⟩
          cases gn : G p with
          | none => exact (stay nl gn _ h.2).2
          | some u =>
            have e1 := R.ex _ _ gn
            rw [h.2] at e1
            cases e1
            exact R'.ex _ _ (e' p _ (by rw [gp0 nl]; exact gn))
    · have := R'.fo f (List.mem_append_right _ hf)
      exact ⟨this.1.imp (fun z => (g0 (frL f hf)).trans z) id, this.2⟩
    · -- a cell of the caller is no cell of the callee but the one that went along
      refine Classical.byContradiction fun nk => ?_
      have lt := (List.getElem?_eq_some_iff.mp hj).1
      have hc : ce[j]? = some (ce[j]'(by rw [← R.ln]; exact lt)) := List.getElem?_eq_getElem _
      generalize ce[j]'(by rw [← R.ln]; exact lt) = c at hc
      have h := R.ce j q c hj hc
      have npk : q ∉ pk := fun z => by
        obtain ⟨k, js, ek, hp2, _⟩ := inK z
        exact nk (by rw [ek, nodup_at R.nd hp2 hj])
      by_cases z : q ∈ L
      · obtain ⟨k, ds, _, _, hp2, hc2⟩ := inL z
        obtain ⟨_, xs, b, _⟩ := R.ce k q _ hp2 hc2
        have := e' q _ (by rw [gp1 z]; exact b : Gp q = some (.lst xs))
        rw [gq] at this
        cases this
      · by_cases gn : G q = none
        · have : ∃ o, H q = some o := by
            cases c with
            | own ds => obtain ⟨_, xs, b, _⟩ := h; exact ⟨_, b⟩
            | frz ds => obtain ⟨xs, b, _⟩ := h; rw [gn] at b; cases b
            | any o => exact ⟨o, h.2⟩
          obtain ⟨o, ho⟩ := this
          have hf : ((q, o) : Addr × HO) ∈ frp := List.mem_append_left _ (List.mem_filterMap.mpr ⟨q, List.mem_filter.mpr ⟨List.mem_of_getElem? hj, by rw [decide_eq_true z, decide_eq_true npk, gn]; rfl⟩, by rw [ho]; rfl⟩)
          exact R'.sp _ hf hq
        · cases gn2 : G q with
          | none => exact gn gn2
          | some o =>
            have := e' q o (eGp q o gn2)
            rw [gq] at this
            cases this
    · exact R'.sp f (List.mem_append_right _ hf) (by rw [e]; exact hq)
/-! what a call hands back -/
section
variable {G H G' H' G2 : Hp} {fr : List (Addr × HO)} {ps ps' : List Addr} {ce : List Cl} {kk : Option Nat} {free : Prop} {k : Nat} {p q : Addr} {js js' ds : List Dt}
theorem Back.none (B : Back G fr ps ce none free G' H' ps' G2) (R : Rl G fr ps ce H) : Rl G2 fr ps ce H' := ⟨B.hp, R.ln, R.nd, fun j p c h1 h2 => B.cell j c p (fun z => nomatch z) h2 h1, B.frm, R.nf, R.sp⟩
theorem Back.some (B : Back G fr ps ce (some k) free G' H' ps' G2) (R : Rl G fr ps ce H) (hp : ps[k]? = some p) {c : Cl} (hc : ClOk G2 H' p c) : Rl G2 fr ps (ce.set k c) H' := by
  refine ⟨B.hp, by rw [List.length_set, R.ln], R.nd, fun j p' c' h1 h2 => ?_, B.frm, R.nf, R.sp⟩
  rw [List.getElem?_set] at h2
  split at h2
  · rename_i e
    subst e
    split at h2
    · cases h2
      rw [hp] at h1
      cases h1
      exact hc
    · cases h2
  · rename_i n
    exact B.cell j c' p' (fun z => n (Option.some.inj z)) h2 h1
/-- one more cell -/
theorem Rl.more (R : Rl G fr ps ce H) {c : Cl} (hc : ClOk G H q c) (nq : q ∉ ps) (nf : ∀ f ∈ fr, f.1 ≠ q) : Up G ps G (ps ++ [q]) ∧ Rl G fr (ps ++ [q]) (ce ++ [c]) H ∧ (ps ++ [q])[ce.length]? = some q := by
  refine ⟨⟨Ex.rfl', List.prefix_append _ _⟩, ⟨R.ex, by rw [List.length_append, List.length_append, R.ln]; rfl, ?_, fun k p c h1 h2 => ?_, R.fo, R.nf, fun f hf hm => ?_⟩, by rw [← R.ln]; exact get_last _ _⟩
  · exact List.nodup_append.mpr ⟨R.nd, List.nodup_cons.mpr ⟨List.not_mem_nil, List.nodup_nil⟩, fun a ha b hb e => by
      rw [List.mem_singleton] at hb
      subst hb
      subst e
      exact nq ha⟩
  · rcases get_snoc h1 with h1 | ⟨k1, rfl⟩
    · rcases get_snoc h2 with h2 | ⟨k2, rfl⟩
      · exact R.ce k p c h1 h2
      · have := (List.getElem?_eq_some_iff.mp h1).1
        rw [R.ln] at this
        omega
    · rcases get_snoc h2 with h2 | ⟨k2, rfl⟩
      · have := (List.getElem?_eq_some_iff.mp h2).1
        rw [← R.ln] at this
        omega
      · exact hc
  · rcases List.mem_append.mp hm with h | h
    · exact R.sp f hf h
    · rw [List.mem_singleton] at h
      exact nf f hf h
theorem iss_keep (B : Back G fr ps ce kk free G' H' ps' G2) (h : free ∨ ∀ d ∈ ds, NoL d) {xs : List V} (hx : Iss G' xs ds) : Iss G2 xs ds := by
  rcases h with h | h
  · rw [B.same h]
    exact hx
  · exact ⟨hx.1, fun i x d h1 h2 => (h d (List.mem_of_getElem? h2)).keep B.tree (hx.2 i x d h1 h2)⟩
theorem is_keep (B : Back G fr ps ce kk free G' H' ps' G2) {d : Dt} {v : V} (h : free ∨ NoL d) (hx : Is G' v d) : Is G2 v d := by
  rcases h with h | h
  · rw [B.same h]
    exact hx
  · exact h.keep B.tree hx
theorem own_keep (B : Back G fr ps ce kk free G' H' ps' G2) (h : free ∨ ∀ d ∈ ds, NoL d) (hx : ClOk G' H' q (.own ds)) : ClOk G2 H' q (.own ds) := by
  obtain ⟨a, xs, b, c⟩ := hx
  exact ⟨B.none_ q a, xs, b, iss_keep B h c⟩
end
/-! a def's promise, told of trees -/
abbrev XF := List Rf → List Cl → XQ → Prop
def spOf (d : XF) : Sp := fun vs H Q _ => ∃ (G : Hp) (fr : List (Addr × HO)) (ps : List Addr) (ce : List Cl) (as : List Rf) (Qd : XQ), Rl G fr ps ce H ∧ RfsOk G ps vs as ∧ d as ce Qd ∧
  ∀ r ce' G' ps' H' v, Qd r ce' → Ex G G' → ps <+: ps' → Rl G' fr ps' ce' H' → RfOk G' ps' v r → Q v H'
def DOk (P : Program) (w : World) (K : PySem.W.Frag) (mg : Str → Option Value) (base : Heap) (k : Nat) (x : Str) (ps : List Str) (d : XF) : Prop :=
  ∃ (f : Addr) (fd : FuncData), FnG P w K mg base k f fd ps (spOf d) ∧ mg x = some (.ref f) ∧ PySem.W.keepIn K (.ref f) = true ∧ Binds K fd ps []
/-- what is returned: the cells of the def's own are dropped -/
def retQ (n0 : Nat) (Qd : XQ) : XQ := fun r ce => match r with
  | .d t => Qd (.d t) (ce.take n0)
  | .c k => if k < n0 then Qd (.c k) (ce.take n0) else match ce[k]? with
    | some (.own ds) => Qd (.c n0) (ce.take n0 ++ [.own ds])
    | some (.frz ds) => Qd (.d (.lst ds)) (ce.take n0)
    | _ => False
def edQ (n0 : Nat) (Qd : XQ) : Ed := { nx := fun s => retQ n0 Qd (.d .non) s.ce, rt := retQ n0 Qd, n0 := n0 }
def startD (n : Nat) (as : List Rf) : List (Option Rf) := as.map some ++ List.replicate (n - as.length) none
theorem retQ_ok {G : Hp} {fr : List (Addr × HO)} {ps : List Addr} {Qd : XQ} {Q : VK} (f : ∀ r ce' G' ps' H' v, Qd r ce' → Ex G G' → ps <+: ps' → Rl G' fr ps' ce' H' → RfOk G' ps' v r → Q v H') :
    ∀ r ce' G' ps' H' v, retQ ps.length Qd r ce' → Ex G G' → ps <+: ps' → Rl G' fr ps' ce' H' → RfOk G' ps' v r → Q v H' := fun r ce' G' ps' H' v q e p R o => by
  have tk : ps'.take ps.length = ps := (List.prefix_iff_eq_take.mp p).symm
  have R0 := R.take ps.length
  rw [tk] at R0
  unfold retQ at q
  cases r with
  | d t => exact f _ _ G' ps H' v q e List.prefix_rfl R0 o
  | c k =>
    dsimp only at q
    obtain ⟨a, rfl, ha⟩ := o
    split at q
    · rename_i lt
      refine f _ _ G' ps H' _ q e List.prefix_rfl R0 ⟨a, rfl, ?_⟩
      rw [← tk, List.getElem?_take, if_pos lt]
      exact ha
    · rename_i ge
      split at q
      · rename_i ds hc
        obtain ⟨u, R2, h2⟩ := R0.more (q := a) (R.ce k a _ ha hc) (fun hm => by
          obtain ⟨j, hj⟩ := List.mem_iff_getElem?.mp hm
          have lj := (List.getElem?_eq_some_iff.mp hj).1
          rw [← tk, List.getElem?_take, if_pos lj] at hj
          exact absurd (nodup_at R.nd hj ha) (by omega)) (fun fq hf e => R.sp fq hf (by rw [e]; exact List.mem_of_getElem? ha))
        have ln : (ce'.take ps.length).length = ps.length := R0.ln.symm
        rw [ln] at h2
        exact f _ _ G' _ H' _ q e (List.prefix_append _ _) R2 ⟨a, rfl, h2⟩
      · rename_i ds hc
        obtain ⟨xs, b, c⟩ := R.ce k a _ ha hc
        exact f _ _ G' ps H' _ q e List.prefix_rfl R0 (show Is G' _ _ from c.mkL b)
      · exact q.elim
theorem slok_start {G : Hp} {ps : List Addr} {N : List Str} : ∀ {vs : List V} {as : List Rf}, RfsOk G ps vs as → SlOk G ps (startD N.length as) (L2.start N vs) := fun {vs as} h => by
  have l := h.len
  have at_ : ∀ {vs : List V} {as : List Rf}, RfsOk G ps vs as → ∀ (i : Nat) r, as[i]? = some r → ∃ v, vs[i]? = some v ∧ RfOk G ps v r := by
    intro vs as h
    induction h with
    | nil => intro i r e; cases e
    | cons h _ ih =>
      intro i r e
      cases i with
      | zero => cases e; exact ⟨_, rfl, h⟩
      | succ i => exact ih i r e
  unfold startD L2.start
  refine ⟨by rw [List.length_append, List.length_append, List.length_map, List.length_map, List.length_replicate, List.length_replicate, l], fun i r e => ?_⟩
  rw [List.getElem?_append] at e ⊢
  rw [List.length_map] at e ⊢
  split at e
  · rename_i c
    rw [if_pos (by omega)]
    rw [List.getElem?_map] at e
    cases ea : as[i]? with
    | none => rw [ea] at e; cases e
    | some r0 =>
      rw [ea] at e
      cases e
      obtain ⟨v, hv, ho⟩ := at_ h i _ ea
      exact ⟨v, by rw [List.getElem?_map, hv]; rfl, ho⟩
  · rw [List.getElem?_replicate] at e
    split at e <;> cases e
section
variable {P : Program} {w : World} {K : PySem.W.Frag} {mg : Str → Option Value} {base : Heap} {k : Nat} {x : Str} {st : Stmt} {ps N : List Str} {d : XF} {tb : XS}
/-- THE RULE for a def -/
theorem def_ok (D : Dfn K mg x st ps) (S : FnScope N ps (defScope st)) (hl : ∀ as ce Q, d as ce Q → as.length = ps.length)
    (hb : ∀ (f : Addr) (cdv : Value) (A : Around) (outer : List Env) (s : Shared) (H : Hp) (E : XK), Calm0 (A.deeper (envOfC x (defScope st) s.heap.objs.size f cdv)) → Room k (A.deeper (envOfC x (defScope st) s.heap.objs.size f cdv)) → DSs (fun _ : Unit => (cxOf CX0 P w K mg base N x (defScope st) f cdv A outer s H E).nox) (defBody st) tb)
    (h : ∀ as ce Qd, d as ce Qd → tb (edQ ce.length Qd) ⟨startD N.length as, ce⟩) : DOk P w K mg base (k + 1) x ps d := by
  obtain ⟨f, fd, F, g, b⟩ := D
  refine ⟨f, fd, fn_g F S (fun vs H Q E q => ?_) (fun cdv A outer s H vs Q E calm room q => ?_), g, F.kp, b⟩
  · obtain ⟨G, fr, ps', ce, as, Qd, R, o, q, _⟩ := q
    rw [o.len]
    exact hl as ce Qd q
  · obtain ⟨G, fr, ps', ce, as, Qd, R, o, q, fin⟩ := q
    obtain ⟨t, p, ss⟩ := hb f cdv A outer s H E calm room
    have hq := h as ce Qd q
    rw [← R.ln] at hq
    have fq := retQ_ok fin
    exact ⟨t, p (), ss G fr ps' ps' ⟨startD N.length as, ce⟩ _ H _ _ List.prefix_rfl R (slok_start o) hq ⟨fun s' G' ps2 σ H' z e p' R' L' => fq (.d .non) s'.ce G' ps2 H' .non z e p' R' (show Is G' _ _ from .non), fun r ce' G' ps2 H' v z e p' R' o' => fq r ce' G' ps2 H' v z e p' R' o', fun _ _ _ _ _ z _ _ _ _ => z.elim, fun _ _ _ _ _ z _ _ _ _ => z.elim, rfl⟩⟩
end
/-! calls -/
def treesOf (ce : List Cl) : List Rf → Option (List Dt)
  | [] => some []
  | r :: rs => match treeOf ce r with
    | some t => match treesOf ce rs with
      | some ts => some (t :: ts)
      | none => none
    | none => none
/-- the cells that are lent -/
def lentOf (ce : List Cl) : List Rf → List Nat
  | [] => []
  | .d _ :: rs => lentOf ce rs
  | .c k :: rs => match ce[k]? with
    | some (.own _) => k :: lentOf ce rs
    | _ => lentOf ce rs
/-- nothing was lent, or no list comes back -/
def chk (l : List Nat) (c : Prop) (Q : Prop) : Prop := match l with
  | [] => Q
  | _ => c ∧ Q
theorem chk_out {l : List Nat} {c Q : Prop} (h : chk l c Q) : (l = [] ∨ c) ∧ Q := by
  cases l with
  | nil => exact ⟨.inl rfl, h⟩
  | cons a l => exact ⟨.inr h.1, h.2⟩
def backP (l : List Nat) (ce : List Cl) (Q : XQ) : XQ := fun r cs => match r, cs with
  | .d t, [] => chk l (NoL t) (Q (.d t) ce)
  | .c 0, [.own ds] => chk l (∀ d ∈ ds, NoL d) (Q (.c ce.length) (ce ++ [.own ds]))
  | .c 0, [.any (.dK kvs)] => Q (.c ce.length) (ce ++ [.any (.dK kvs)])
  | _, _ => False
def backJ (l : List Nat) (k : Nat) (ce : List Cl) (Q : XQ) : XQ := fun r cs => match r, cs with
  | .d t, [.own js] => chk l (NoL t ∧ ∀ d ∈ js, NoL d) (Q (.d t) (ce.set k (.own js)))
  | .c 1, [.own js, .own ds] => chk l ((∀ d ∈ js, NoL d) ∧ ∀ d ∈ ds, NoL d) (Q (.c ce.length) (ce.set k (.own js) ++ [.own ds]))
  | _, _ => False
/-- f(..), no cell goes along -/
def calP (d : XF) (dl : XA) : XE := fun s Q => dl s fun rs ce => ∃ ts, treesOf ce rs = some ts ∧ d (ts.map .d) [] (backP (lentOf ce rs) ce Q)
/-- f(jar, ..), a cell goes along -/
def calJ (d : XF) (dl : XA) : XE := fun s Q => dl s fun rs ce => match rs with
  | .c k :: rs => ∃ js ts, ce[k]? = some (.own js) ∧ k ∉ lentOf ce rs ∧ treesOf ce rs = some ts ∧ d (.c 0 :: ts.map .d) [.own js] (backJ (lentOf ce rs) k ce Q)
  | _ => False
theorem trees_ok {G H Gp : Hp} {fr : List (Addr × HO)} {ps : List Addr} {ce : List Cl} (R : Rl G fr ps ce H) (e : Ex G Gp) (psk : List Addr) : ∀ {vs : List V} {rs : List Rf} {ts : List Dt}, RfsOk G ps vs rs → treesOf ce rs = some ts → (∀ k ∈ lentOf ce rs, ∀ ds p, ce[k]? = some (.own ds) → ps[k]? = some p → Is Gp (.ref p) (.lst ds)) → RfsOk Gp psk vs (ts.map .d)
  | _, [], ts, .nil, h, _ => by
    cases h
    exact .nil
  | _, r :: rs, ts, .cons o os, h, l => by
    unfold treesOf at h
    split at h
    · rename_i t ht
      split at h
      · rename_i ts' hts
        cases h
        cases r with
        | d u =>
          obtain rfl : u = t := Option.some.inj ht
          exact .cons (Is.ex o e) (trees_ok R e psk os hts l)
        | c k =>
          obtain ⟨p, rfl, hp⟩ := o
          have ht : (match ce[k]? with | some (.own ds) => some (Dt.lst ds) | some (.frz ds) => some (Dt.lst ds) | _ => none) = some t := ht
          split at ht
          · rename_i ds hc
            cases ht
            have hl : lentOf ce (.c k :: rs) = k :: lentOf ce rs := by
              show (match ce[k]? with | some (.own _) => k :: lentOf ce rs | _ => lentOf ce rs) = _
              rw [hc]
            rw [hl] at l
            exact .cons (show RfOk Gp psk _ (.d _) from l k List.mem_cons_self ds p hc hp) (trees_ok R e psk os hts fun k' hk' => l k' (List.mem_cons_of_mem _ hk'))
          · rename_i ds hc
            cases ht
            have hl : lentOf ce (.c k :: rs) = lentOf ce rs := by
              show (match ce[k]? with | some (.own _) => k :: lentOf ce rs | _ => lentOf ce rs) = _
              rw [hc]
            rw [hl] at l
            obtain ⟨xs, a, b⟩ := R.ce k p _ hp hc
            exact .cons (show RfOk Gp psk _ (.d _) from (b.mkL a).ex e) (trees_ok R e psk os hts l)
          · cases ht
      · cases h
    · cases h
theorem lent_own {ce : List Cl} : ∀ {rs : List Rf}, ∀ k ∈ lentOf ce rs, ∃ ds, ce[k]? = some (.own ds)
  | [], k, h => absurd h List.not_mem_nil
  | .d _ :: rs, k, h => lent_own (rs := rs) k h
  | .c j :: rs, k, h => by
    unfold lentOf at h
    split at h
    · rename_i ds hc
      rcases List.mem_cons.mp h with e | e
      · subst e
        exact ⟨ds, hc⟩
      · exact lent_own k e
    · exact lent_own k h
theorem sc_calP {d : XF} : SC (fun vs H Q => spOf d vs H Q E0) (fun as ce Q => ∃ ts, treesOf ce as = some ts ∧ d (ts.map .d) [] (backP (lentOf ce as) ce Q)) := fun G fr ps ce H xs as Q Qd R o q f => by
  obtain ⟨ts, ht, q⟩ := q
  obtain ⟨Gp, frp, eG, RP, il, back⟩ := call_frame R none (lentOf ce as) (fun k hk => ⟨(fun z => nomatch z), lent_own k hk⟩) (fun k hk => by cases hk)
  refine ⟨Gp, frp, [], [], ts.map .d, _, RP, trees_ok R eG [] o ht il, q, fun r cs G' ps' H' v qb e' p' R' o' => ?_⟩
  obtain ⟨G2, B⟩ := back G' ps' cs H' e' R'
  have RB := B.none R
  unfold backP at qb
  split at qb
  · obtain ⟨k, qb⟩ := chk_out qb
    exact f _ _ G2 ps H' v qb ⟨B.gr, List.prefix_rfl⟩ RB (show RfOk G2 ps v (.d _) from is_keep B k o')
  · rename_i ds
    obtain ⟨k, qb⟩ := chk_out qb
    obtain ⟨a, rfl, ha⟩ := o'
    have ok := R'.ce 0 a _ ha rfl
    have hn : G' a = none := ok.1
    obtain ⟨n1, n2⟩ := B.new a (List.mem_of_getElem? ha) hn
    obtain ⟨u, R3, h3⟩ := RB.more (q := a) (own_keep B k ok) (fun hm => by
      obtain ⟨j, hj⟩ := List.mem_iff_getElem?.mp hm
      exact absurd (n1 j hj) (fun z => nomatch z)) n2
    exact f _ _ G2 _ H' _ qb ((⟨B.gr, List.prefix_rfl⟩ : Up G ps G2 ps).trans u) R3 ⟨a, rfl, h3⟩
  · rename_i kvs
    obtain ⟨a, rfl, ha⟩ := o'
    have ok : (G' a = none ∨ ∃ ts, HO.dK kvs = .tup ts) ∧ H' a = some (.dK kvs) := R'.ce 0 a _ ha rfl
    have hn : G' a = none := ok.1.elim id (fun ⟨_, e⟩ => (nomatch e))
    obtain ⟨n1, n2⟩ := B.new a (List.mem_of_getElem? ha) hn
    obtain ⟨u, R3, h3⟩ := RB.more (q := a) (c := .any (.dK kvs)) (show ClOk G2 H' a (.any (.dK kvs)) from ⟨.inl (B.none_ a hn), ok.2⟩) (fun hm => by
      obtain ⟨j, hj⟩ := List.mem_iff_getElem?.mp hm
      exact absurd (n1 j hj) (fun z => nomatch z)) n2
    exact f _ _ G2 _ H' _ qb ((⟨B.gr, List.prefix_rfl⟩ : Up G ps G2 ps).trans u) R3 ⟨a, rfl, h3⟩
  · exact qb.elim
theorem sc_calJ {d : XF} : SC (fun vs H Q => spOf d vs H Q E0) (fun as ce Q => match as with
    | .c k :: rs => ∃ js ts, ce[k]? = some (.own js) ∧ k ∉ lentOf ce rs ∧ treesOf ce rs = some ts ∧ d (.c 0 :: ts.map .d) [.own js] (backJ (lentOf ce rs) k ce Q)
    | _ => False) := fun G fr ps ce H xs as Q Qd R o q f => by
  dsimp only at q
  split at q
  · rename_i k rs
    obtain ⟨js, ts, hj, nk, ht, q⟩ := q
    obtain ⟨Gp, frp, eG, RP, il, back⟩ := call_frame R (some k) (lentOf ce rs) (fun k' hk => ⟨fun z => nk (Option.some.inj z ▸ hk), lent_own k' hk⟩) (fun k' hk => by cases hk; exact ⟨js, hj⟩)
    cases o with
    | cons o os =>
      obtain ⟨a, rfl, ha⟩ := id o
      have e1 : ((some k).toList.filterMap fun k => ps[k]?) = [a] := by
        show ([k].filterMap fun k => ps[k]?) = [a]
        rw [List.filterMap_cons_some ha]
        rfl
      have e2 : ((some k).toList.filterMap fun k => ce[k]?) = [.own js] := by
        show ([k].filterMap fun k => ce[k]?) = _
        rw [List.filterMap_cons_some hj]
        rfl
      rw [e1, e2] at RP
      refine ⟨Gp, frp, [a], [.own js], .c 0 :: ts.map .d, _, RP, .cons ⟨a, rfl, rfl⟩ (trees_ok R eG [a] os ht il), q, fun r cs G' ps' H' v qb e' p' R' o' => ?_⟩
      obtain ⟨G2, B⟩ := back G' ps' cs H' e' R'
      obtain ⟨t, rfl⟩ := p'
      unfold backJ at qb
      split at qb
      · obtain ⟨kk, qb⟩ := chk_out qb
        have ok := R'.ce 0 a _ rfl rfl
        have RB := B.some R ha (own_keep B (kk.imp id (·.2)) ok)
        exact f _ _ G2 ps H' v qb ⟨B.gr, List.prefix_rfl⟩ RB (show RfOk G2 ps v (.d _) from is_keep B (kk.imp id (·.1)) o')
      · obtain ⟨kk, qb⟩ := chk_out qb
        have ok := R'.ce 0 a _ rfl rfl
        have RB := B.some R ha (own_keep B (kk.imp id (·.1)) ok)
        obtain ⟨b, rfl, hb⟩ := o'
        have ok2 := R'.ce 1 b _ hb rfl
        obtain ⟨n1, n2⟩ := B.new b (List.mem_of_getElem? hb) ok2.1
        obtain ⟨u, R3, h3⟩ := RB.more (q := b) (own_keep B (kk.imp id (·.2)) ok2) (fun hm => by
          obtain ⟨j, hj⟩ := List.mem_iff_getElem?.mp hm
          have := Option.some.inj (n1 j hj)
          subst this
          rw [ha] at hj
          cases hj
          exact absurd (nodup_at R'.nd (show ([a] ++ t)[0]? = some a from rfl) hb) (by decide)) n2
        rw [List.length_set] at h3
        exact f _ _ G2 _ H' _ qb ((⟨B.gr, List.prefix_rfl⟩ : Up G ps G2 ps).trans u) R3 ⟨b, rfl, h3⟩
      · exact qb.elim
  · exact q.elim
section
variable {ι : Type} {F : ι → Cx} {k : Nat} {x : Str} {ps : List Str} {d : XF} {e : Expr} {es : List Expr} {dl : XA} {p pos : Pos}
theorem app_nil {d : XF} {t : TA} : (tCall (spOf d) [] E0 t) = tCB (fun vs H Q => spOf d vs H Q E0) t := by
  funext σ H Q
  show t σ H (fun vs H1 => spOf d (vs ++ []) H1 Q E0) = t σ H fun xs H1 => spOf d xs H1 Q E0
  congr 1
  funext vs H1
  rw [List.append_nil]
theorem de_fn {dc : XC} (O : ∀ i, DOk (F i).prog (F i).w (F i).K (F i).mg (F i).base k x ps d) (sc : SC (fun vs H Q => spOf d vs H Q E0) dc) (hc : ∀ i, Calm0 (F i).A) (hr : ∀ i, Room k (F i).A) (ha : DA F (e :: es) dl) (hg : ∀ i, Gl (F i) x) (hdb : (x == ("__debug__" : Str)) = false)
    (he : ∀ i, starEach (e :: es) (F i).env = (false, eval e (F i).env) :: starEach es (F i).env) (hpl : ∀ i, (backTo pos (starEach es (F i).env)).any (·.1) = false) : DE F (.Call (.Name x p) (e :: es) [] pos) (calD dc dl) := by
  obtain ⟨t, q, sa⟩ := ha
  refine ⟨_, fun i => ?_, .cal sc sa⟩
  obtain ⟨f, fd, G, g, kp, b⟩ := O i
  rw [← app_nil]
  exact pe_g G (hc i) (hr i) (hg i) g kp b (q i) hdb (he i) (hpl i)
theorem de_p (O : ∀ i, DOk (F i).prog (F i).w (F i).K (F i).mg (F i).base k x ps d) (hc : ∀ i, Calm0 (F i).A) (hr : ∀ i, Room k (F i).A) (ha : DA F (e :: es) dl) (hg : ∀ i, Gl (F i) x := by intro _; rfl) (hdb : (x == ("__debug__" : Str)) = false := by decide)
    (he : ∀ i, starEach (e :: es) (F i).env = (false, eval e (F i).env) :: starEach es (F i).env := by intro _; rfl) (hpl : ∀ i, (backTo pos (starEach es (F i).env)).any (·.1) = false := by intro _; rfl) : DE F (.Call (.Name x p) (e :: es) [] pos) (calP d dl) := de_fn O sc_calP hc hr ha hg hdb he hpl
theorem de_j (O : ∀ i, DOk (F i).prog (F i).w (F i).K (F i).mg (F i).base k x ps d) (hc : ∀ i, Calm0 (F i).A) (hr : ∀ i, Room k (F i).A) (ha : DA F (e :: es) dl) (hg : ∀ i, Gl (F i) x := by intro _; rfl) (hdb : (x == ("__debug__" : Str)) = false := by decide)
    (he : ∀ i, starEach (e :: es) (F i).env = (false, eval e (F i).env) :: starEach es (F i).env := by intro _; rfl) (hpl : ∀ i, (backTo pos (starEach es (F i).env)).any (·.1) = false := by intro _; rfl) : DE F (.Call (.Name x p) (e :: es) [] pos) (calJ d dl) := de_fn O sc_calJ hc hr ha hg hdb he hpl
end
end TD
set_option Elab.async false
set_option linter.all false
set_option maxRecDepth 100000
set_option maxHeartbeats 1000000
/-! repr, reversed, enumerate, clear -/
namespace TD
open PySem PySem.Spec PyProof.Rows L2 TW
/-- data that repr may write: ints below 10^40 -/
def rp : Nat → Dt → Bool
  | _, .int i => decide (i.natAbs < 10 ^ 40)
  | _, .non => true
  | _, .bl _ => true
  | _, .str x => (PyData.str x).canLay0
  | n + 1, .tup ds => ds.all (rp n)
  | n + 1, .lst ds => ds.all (rp n)
  | _, _ => false
mutual
def szD : Dt → Nat
  | .non => 4
  | .bl _ => 5
  | .int _ => 41
  | .str x => 10 * x.cps.size + 8
  | .tup ds => szDs ds + 3
  | .lst ds => szDs ds + 3
  | .ins _ _ => 4
  | .raw _ => 4
  | .prm _ => 4
def szDs : List Dt → Nat
  | [] => 0
  | d :: ds => szD d + 2 + szDs ds
end
theorem szDs_le {m : Nat} : ∀ {ds : List Dt}, (∀ d ∈ ds, szD d ≤ m) → szDs ds ≤ (m + 2) * ds.length
  | [], _ => Nat.zero_le _
  | d :: ds, h => by
    have h1 := h d List.mem_cons_self
    have h2 := szDs_le (m := m) (ds := ds) fun x hx => h x (List.mem_cons_of_mem _ hx)
    show szD d + 2 + szDs ds ≤ (m + 2) * (ds.length + 1)
    rw [Nat.mul_succ]
    omega
theorem shs_map : ∀ ds : List Dt, PyData.shownAll (toPys ds) = ds.map fun d => (toPy d).shown
  | [] => rfl
  | d :: ds => by
    show (toPy d).shown :: PyData.shownAll (toPys ds) = _
    rw [shs_map ds]
    rfl
theorem swa_map : ∀ {ds : List Dt}, (∀ d ∈ ds, (toPy d).showable = true) → PyData.showableAll (toPys ds) = true
  | [], _ => rfl
  | d :: ds, h => by
    show ((toPy d).showable && PyData.showableAll (toPys ds)) = true
    rw [h d List.mem_cons_self, swa_map fun x hx => h x (List.mem_cons_of_mem _ hx)]
    rfl
theorem nda_map : ∀ {ds : List Dt}, (∀ d ∈ ds, (toPy d).hasDict = false) → PyData.hasDictAll (toPys ds) = false
  | [], _ => rfl
  | d :: ds, h => by
    show ((toPy d).hasDict || PyData.hasDictAll (toPys ds)) = false
    rw [h d List.mem_cons_self, nda_map fun x hx => h x (List.mem_cons_of_mem _ hx)]
    rfl
theorem small_log {i : Int} (h : i.natAbs < 10 ^ 40) : i.natAbs.log2 < 1920 := by
  refine Nat.lt_of_le_of_lt (m := 140) ?_ (by decide)
  by_cases z : i.natAbs = 0
  · rw [z]; decide
  · refine Nat.le_of_lt_succ ((Nat.log2_lt z).mpr (Nat.lt_of_lt_of_le h (by decide)))
theorem strs_short {x : Str} (h : (PyData.str x).canLay0 = true) : (PyData.str x).leavesShort 8 = true := PyData.leavesShort_of_canLay0 8 (.str x) h rfl
theorem sum_sz {ds : List Dt} (h : ∀ d ∈ ds, (toPy d).shown.length ≤ szD d) : ((ds.map fun d => (toPy d).shown).map (·.length)).sum + 2 * ds.length ≤ szDs ds := by
  induction ds with
  | nil => exact Nat.le_refl _
  | cons d ds ih =>
    have h1 := h d List.mem_cons_self
    have h2 := ih fun x hx => h x (List.mem_cons_of_mem _ hx)
    show (toPy d).shown.length + ((ds.map fun d => (toPy d).shown).map (·.length)).sum + 2 * (ds.length + 1) ≤ szD d + 2 + szDs ds
    omega
structure RpOk (d : Dt) (n : Nat) : Prop where
  show_ : (toPy d).showable = true
  nd : (toPy d).hasDict = false
  dp : (toPy d).depth ≤ n
  sz : (toPy d).shown.length ≤ szD d
theorem rp_ok : ∀ {n : Nat} {d : Dt}, rp n d = true → RpOk d n := by
  intro n
  induction n with
  | zero =>
    intro d h
    cases d with
    | int i =>
      have h := of_decide_eq_true h
      exact ⟨decide_eq_true (small_log h), rfl, Nat.le_refl _, (int_text_length_le10 (k := 40) (by decide) h) |> fun e => by
        show (Str.ofString (toString i)).length ≤ 41
        rw [PySem.ofString_length]; exact e⟩
    | non => exact ⟨rfl, rfl, Nat.le_refl _, by show (PyData.shown .none).length ≤ 4; decide⟩
    | bl b => exact ⟨rfl, rfl, Nat.le_refl _, by cases b <;> (show (PyData.shown (.bool _)).length ≤ 5) <;> decide⟩
    | str x => exact ⟨rfl, rfl, Nat.le_refl _, PyData.shown_le 8 (Nat.le_refl _) _ (strs_short h)⟩
    | _ => cases h
  | succ n ih =>
    intro d h
    cases d with
    | int i =>
      have h := of_decide_eq_true h
      exact ⟨decide_eq_true (small_log h), rfl, Nat.zero_le _, (int_text_length_le10 (k := 40) (by decide) h) |> fun e => by
        show (Str.ofString (toString i)).length ≤ 41
        rw [PySem.ofString_length]; exact e⟩
    | non => exact ⟨rfl, rfl, Nat.zero_le _, by show (PyData.shown .none).length ≤ 4; decide⟩
    | bl b => exact ⟨rfl, rfl, Nat.zero_le _, by cases b <;> (show (PyData.shown (.bool _)).length ≤ 5) <;> decide⟩
    | str x => exact ⟨rfl, rfl, Nat.zero_le _, PyData.shown_le 8 (Nat.le_refl _) _ (strs_short h)⟩
    | tup ds =>
      have h : ∀ d ∈ ds, rp n d = true := List.all_eq_true.mp h
      refine ⟨swa_map fun d hd => (ih (h d hd)).show_, nda_map fun d hd => (ih (h d hd)).nd, Nat.succ_le_succ (dep_all fun d hd => (ih (h d hd)).dp), ?_⟩
      show (tupleText (PyData.shownAll (toPys ds))).length ≤ szDs ds + 3
      rw [shs_map]
      have := tupleText_len_le (ds.map fun d => (toPy d).shown)
      have := sum_sz fun d hd => (ih (h d hd)).sz
      rw [List.length_map] at *
      omega
    | lst ds =>
      have h : ∀ d ∈ ds, rp n d = true := List.all_eq_true.mp h
      refine ⟨swa_map fun d hd => (ih (h d hd)).show_, nda_map fun d hd => (ih (h d hd)).nd, Nat.succ_le_succ (dep_all fun d hd => (ih (h d hd)).dp), ?_⟩
      show (listText (PyData.shownAll (toPys ds))).length ≤ szDs ds + 3
      rw [shs_map]
      have := listText_len_le (ds.map fun d => (toPy d).shown)
      have := sum_sz fun d hd => (ih (h d hd)).sz
      rw [List.length_map] at *
      omega
    | _ => cases h
theorem at_rp {H : Hp} : ∀ (n : Nat) (x : V) (d : Dt), rp n d = true → Is H x d → At H x (toPy d)
  | n, x, .int i, _, h => by cases h; exact .int i
  | n, x, .non, _, h => by cases h; exact .non
  | n, x, .bl b, _, h => by cases h; exact .bl b
  | n, x, .str y, _, h => by cases h; exact .str y
  | 0, x, .tup ds, h, _ => by cases h
  | 0, x, .lst ds, h, _ => by cases h
  | n + 1, x, .tup ds, hp, h => by
    obtain ⟨a, xs, rfl, h1, h2⟩ := h.inT
    exact At.mkT h1 (ats_of (P := fun d => rp n d = true) (fun x d => at_rp n x d) h2 (List.all_eq_true.mp hp))
  | n + 1, x, .lst ds, hp, h => by
    obtain ⟨a, xs, rfl, h1, h2⟩ := h.inL
    exact At.mkL h1 (ats_of (P := fun d => rp n d = true) (fun x d => at_rp n x d) h2 (List.all_eq_true.mp hp))
  | n, x, .ins _ _, h, _ => by cases n <;> cases h
  | n, x, .raw _, h, _ => by cases n <;> cases h
  | n, x, .prm _, h, _ => by cases n <;> cases h
theorem tree_rp {G H : Hp} {fr : List (Addr × HO)} {ps : List Addr} {ce : List Cl} {v : V} {r : Rf} {t : Dt} {n : Nat} (R : Rl G fr ps ce H) (hr : RfOk G ps v r) (h : treeOf ce r = some t) (hp : rp n t = true) : At H v (toPy t) := by
  cases r with
  | d u =>
    obtain rfl : u = t := Option.some.inj h
    exact at_rp n v u hp (Is.ex hr R.ex)
  | c k =>
    have : ∃ ds, t = .lst ds ∧ lstOf ce (.c k) = some ds := by
      have h : (match ce[k]? with | some (.own ds) => some (Dt.lst ds) | some (.frz ds) => some (Dt.lst ds) | _ => none) = some t := h
      show ∃ ds, t = .lst ds ∧ (match ce[k]? with | some (.own ds) => some ds | some (.frz ds) => some ds | _ => none) = some ds
      split at h
      · rename_i ds e
        exact ⟨ds, (Option.some.inj h).symm, rfl⟩
      · rename_i ds e
        exact ⟨ds, (Option.some.inj h).symm, rfl⟩
      · cases h
    obtain ⟨ds, rfl, e⟩ := this
    obtain ⟨a, xs, rfl, h1, h2⟩ := lst_at R hr e
    cases n with
    | zero => cases hp
    | succ n => exact At.mkL h1 (ats_of (P := fun d => rp n d = true) (fun x d => at_rp n x d) (h2.ex R.ex) (List.all_eq_true.mp hp))
theorem cr_repr {X : Cx} (hc : Calm0 X.A) (hu : X.A.units + 64 < cLine) : CallR X (.builtin "repr") (fun xs H Q => ∃ v d, xs = [v] ∧ Dp X.K H v d ∧ d.showable = true ∧ d.hasDict = false ∧ d.depth ≤ 60 ∧ d.shown.length ≤ sizeLine ∧ Q (.str d.shown) H) := by
  intro pins s σ H xs us Q I r h
  obtain ⟨v, d, rfl, dp, sh, nd, de, sz, q⟩ := h
  obtain ⟨u, rfl, ru⟩ := vals1 r
  obtain ⟨as, rd⟩ := Dp.reads I d v u dp ru
  have fin : ∀ a, u = .ref a → wpAny (model X.prog X.w) X.A (call (.builtin "repr") [u]) (EP X pins σ Q) X.xe s := by
    rintro a rfl
    exact repr_of_reads' rd sh (PyData.noDict_hsm nd) hc (by omega) (fun _ _ e => e) (fun h' u tk hk => ⟨.str _, H, I.kept hk, ⟨_, rfl⟩, q⟩) sz
  cases rd with
  | none => exact PySem.P.repr_of_none ⟨.str _, H, I.tok _, ⟨_, rfl⟩, q⟩
  | bool b => exact PySem.P.repr_of_bool ⟨.str _, H, I.tok _, ⟨_, rfl⟩, q⟩
  | int i t => exact PySem.P.repr_of_int (of_decide_eq_true sh) ⟨.str _, H, I.tok _, ⟨_, rfl⟩, q⟩
  | str x t => exact PySem.P.repr_of_str ⟨.str _, H, I.tok _, ⟨_, rfl⟩, q⟩ sz
  | list h1 h2 h3 h4 => exact fin _ rfl
  | tuple h1 h2 h3 h4 => exact fin _ rfl
  | dict h1 h2 h3 h4 h5 => cases nd
def reprD : XC := one fun a ce Q => ∃ t, treeOf ce a = some t ∧ rp 60 t = true ∧ szD t ≤ 2 ^ 24 ∧ ∀ y, y = (toPy t).shown → Q (.d (.str y)) ce
section
variable {ι : Type} {F : ι → Cx} {K : PySem.W.Frag} {e : Expr} {da : XE} {p p2 pos pos2 : Pos}
theorem dc_repr (hc : ∀ i, Calm0 (F i).A) (hu : ∀ i, (F i).A.units + 64 < cLine) (hK : ∀ i, (F i).K = K := by intro _; rfl) : DC F (.builtin "repr") reprD := ⟨fun xs H Q => ∃ v d, xs = [v] ∧ Dp K H v d ∧ d.showable = true ∧ d.hasDict = false ∧ d.depth ≤ 60 ∧ d.shown.length ≤ sizeLine ∧ Q (.str d.shown) H, fun i => by have := hK i; subst this; exact cr_repr (hc i) (hu i), sc_one fun G fr ps ce H x a Q Qd R ra q f => by
  obtain ⟨t, ht, hr, hz, q⟩ := q
  have k := rp_ok hr
  exact ⟨x, toPy t, rfl, (tree_rp R ra ht hr).dp, k.show_, k.nd, k.dp, Nat.le_trans k.sz (by rw [sizeLine_eq]; omega), fin_d f R (.str _) (q _ rfl)⟩⟩
def revD (e : XE) : XE := fun s Q => e s fun r ce => ∃ ds, lstOf ce r = some ds ∧ Q (.c ce.length) (ce ++ [.own ds.reverse])
theorem iss_rev {H : Hp} {xs : List V} {ds : List Dt} (h : Iss H xs ds) : Iss H xs.reverse ds.reverse := by
  induction ds generalizing xs with
  | nil =>
    cases xs with
    | nil => exact .nil
    | cons x xs => cases h.1
  | cons d ds ih =>
    cases xs with
    | nil => cases h.1
    | cons x xs =>
      rw [List.reverse_cons, List.reverse_cons]
      exact (ih h.rest).snoc h.head
theorem de_listRev (hc : ∀ j, (F j).calm = true) (hg : ∀ j, Gl (F j) "list") (hm : ∀ j, (F j).mg "list" = none) (hg2 : ∀ j, Gl (F j) "reversed") (hm2 : ∀ j, (F j).mg "reversed" = none) (he : DE F e da) (hs : ∀ j, starEach [e] (F j).env = (false, eval e (F j).env) :: starEach [] (F j).env := by intro _; rfl)
    (hs2 : ∀ j, starEach [.Call (.Name "reversed" p2) [e] [] pos2] (F j).env = (false, eval (.Call (.Name "reversed" p2) [e] [] pos2) (F j).env) :: starEach [] (F j).env := by intro _; rfl) (hK : ∀ i, (F i).K = K := by intro _; rfl) : DE F (.Call (.Name "list" p) [.Call (.Name "reversed" p2) [e] [] pos2] [] pos) (revD da) := by
  obtain ⟨t, q, sa⟩ := he
  refine ⟨tLstRev K t, fun j => by have := hK j; subst this; exact pe_listRev (hc j) (hg j) (hm j) (hg2 j) (hm2 j) (q j) (hs j) (hs2 j), fun G fr ps s σ H Q Qd R L h f => sa G fr ps s σ H _ _ R L h fun r ce1 G1 ps1 H1 v q u R1 k => ?_⟩
  obtain ⟨ds, hd, q⟩ := q
  obtain ⟨a, xs, rfl, h1, h2⟩ := lst_at R1 k hd
  exact ⟨a, xs, rfl, Evl.sq_of h1, fin_lst (f.up u) R1 (iss_rev h2) q⟩
/-! o.clear() -/
def met0D (r : Rf → List Cl → XQ → Prop) (a : XE) : XE := fun s Q => a s fun x ce => r x ce Q
def clearD : Rf → List Cl → XQ → Prop := fun x ce Q => ∃ k ds, x = .c k ∧ ce[k]? = some (.own ds) ∧ Q (.d .non) (ce.set k (.own []))
theorem de_clear {o : Expr} {do_ : XE} {apos cpos : Pos} (ho : DE F o do_) (hbase : ∀ j, attributeBase o "clear" (F j).env (eval o (F j).env) = eval o (F j).env := by intro _; rfl) (hline : (apos.endLine == cpos.line) = true := by rfl) (hK : ∀ i, (F i).K = K := by intro _; rfl) :
    DE F (.Call (.Attribute o "clear" apos) [] [] cpos) (met0D clearD do_) := by
  obtain ⟨t, q, sa⟩ := ho
  refine ⟨tBM0 K "list" rClear t, fun j => by have := hK j; subst this; exact pe_bm0 PySem.F.plainAttrs_list PySem.F.slot_list_clear PySem.F.type_list_clear mt_clear (q j) (hbase j) hline, fun G fr ps s σ H Q Qd R L h f => sa G fr ps s σ H _ _ R L h fun r ce1 G1 ps1 H1 v q u R1 k => ?_⟩
  obtain ⟨j, ds, rfl, hc, q⟩ := q
  obtain ⟨a, xs, rfl, hp, h1, h2⟩ := own_at R1 k hc
  exact ⟨.inl ⟨rfl, _, Evl.sq_of h1⟩, a, xs, rfl, rfl, h1, fin_put (f.up u) R1 hp hc .nil .non q⟩
/-! enumerate -/
def enmL : Nat → List Dt → List Dt
  | _, [] => []
  | i, d :: ds => .tup [.int (i : Nat), d] :: enmL (i + 1) ds
theorem enm_get : ∀ {ds : List Dt} {j i : Nat} {t : Dt}, (enmL j ds)[i]? = some t → ∃ d, ds[i]? = some d ∧ t = .tup [.int ((j + i : Nat) : Int), d]
  | [], j, i, t, h => by cases h
  | d :: ds, j, 0, t, h => by cases h; exact ⟨d, rfl, rfl⟩
  | d :: ds, j, i + 1, t, h => by
    obtain ⟨d', h1, h2⟩ := enm_get (j := j + 1) (ds := ds) (i := i) h
    exact ⟨d', h1, by rw [h2, show j + 1 + i = j + (i + 1) by omega]⟩
theorem enm_len : ∀ {ds : List Dt} {j : Nat}, (enmL j ds).length = ds.length
  | [], _ => rfl
  | d :: ds, j => by
    show (enmL (j + 1) ds).length + 1 = ds.length + 1
    rw [enm_len]
theorem enm_map {α : Type} (h : α → Dt) : ∀ (xs : List α) (j : Nat), enmL j (xs.map h) = (xs.zipIdx j).map fun z => .tup [.int ((z.2 : Nat) : Int), h z.1]
  | [], _ => rfl
  | x :: xs, j => by
    show Dt.tup _ :: enmL (j + 1) (xs.map h) = _
    rw [enm_map h xs (j + 1)]
    rfl
def enumI (e : XA) : XI := fun s Rd => e s fun rs ce => match rs with
  | [r] => ∃ ds, lstOf ce r = some ds ∧ match r with
    | .d _ => Rd (enmL 0 ds) (fun _ => True) 0 ce
    | .c k => k < ce.length ∧ Rd (enmL 0 ds) (fun ce' => itemsOf ce' (.c k) = some ds) (k + 1) ce
  | _ => False
theorem wk_enum {G : Hp} {ps : List Addr} {a : Addr} {ds : List Dt} {keep : List Cl → Prop} (h : ∀ G' fr ps' ce H, Ex G G' → ps <+: ps' → Rl G' fr ps' ce H → keep ce → ∃ xs, H a = some (.lst xs) ∧ Iss G' xs ds) : WkD (Ite K a) (enmL 0 ds) keep G ps where
  goes := fun i G' fr ps' ce H hi e p R k => by
    obtain ⟨xs, h1, h2⟩ := h G' fr ps' ce H e p R k
    have lt : i < xs.length := by rw [h2.1, ← enm_len (j := 0)]; exact hi
    exact ⟨xs, xs[i], Evl.sq_of h1, List.getElem?_eq_getElem lt⟩
  stops := fun G' fr ps' ce H e p R k => by
    obtain ⟨xs, h1, h2⟩ := h G' fr ps' ce H e p R k
    exact ⟨xs, Evl.sq_of h1, by rw [h2.1, enm_len]; exact Nat.le_refl _⟩
  yields := fun i t G' fr ps' ce H x H' hi e p R k y => by
    obtain ⟨xs, h1, h2⟩ := h G' fr ps' ce H e p R k
    obtain ⟨T, y0, rfl, nT, rfl, y⟩ := y
    obtain ⟨d, hd, rfl⟩ := enm_get hi
    obtain ⟨v, hv, hit⟩ := h2.get hd
    have := y xs (Evl.sq_of h1)
    rw [hv] at this
    cases this
    obtain ⟨e2, R2, hp⟩ := R.ground (o := .tup [.int (i : Nat), y0]) nT
    rw [Nat.zero_add]
    exact ⟨_, e2, R2, (Iss.cons (Is.int _) (.cons (hit.ex e2) .nil)).mkT hp⟩
theorem di_enum {elts : List Expr} {kk : Nat} {tpos : Pos} {dl : XA} (hg : ∀ j, Gl (F j) "enumerate") (hm : ∀ j, (F j).mg "enumerate" = none) (ha : DA F [e] dl) (hs : ∀ j, starEach [e] (F j).env = [(false, eval e (F j).env)] := by intro _; rfl) (hK : ∀ j, (F j).K = K := by intro _; rfl) : DI F (.Tuple elts kk tpos) (.Call (.Name "enumerate" p) [e] [] pos) (enumI dl) := by
  obtain ⟨t, q, sa⟩ := ha
  refine ⟨iEnum K t, fun j => by have := hK j; subst this; exact pi_enum (hg j) (hm j) (q j) (hs j), fun G fr ps s σ H R Rd R0 L h f => sa G fr ps s σ H _ _ R0 L h fun rs ce G1 ps1 H1 vs q u R1 o => ?_⟩
  split at q
  · rename_i r
    cases o with
    | cons o os =>
      cases os
      obtain ⟨ds, hd, q⟩ := q
      cases r with
      | c k =>
        obtain ⟨lk, q⟩ := q
        obtain ⟨a, rfl, hk⟩ := id o
        obtain ⟨_, xs, e1, h1, h2⟩ := lst_at (r := .c k) R1 o hd
        cases e1
        exact ⟨a, xs, rfl, Evl.sq_of h1, f _ _ _ _ G1 ps1 H1 _ q u R1 lk (wk_enum (keep_at hk))⟩
      | d t =>
        cases t with
        | lst es =>
          cases hd
          obtain ⟨a, xs, rfl, h1, h2⟩ := Is.inL o
          exact ⟨a, xs, rfl, Evl.sq_of (R1.ex _ _ h1), f _ _ _ _ G1 ps1 H1 _ q u R1 (Nat.zero_le _) (wk_enum fun G' fr ps' ce H e p R k => ⟨xs, R.ex _ _ (e _ _ h1), h2.ex e⟩)⟩
        | _ => cases hd
  · exact q.elim
end
end TD
set_option Elab.async false
set_option linter.all false
set_option maxRecDepth 100000
set_option maxHeartbeats 1000000
/-! promises of old, classes, properties, calls by names -/
namespace TD
open PySem PySem.Spec PyProof.Rows L2 TW
section
variable {G H H' G' : Hp} {fr : List (Addr × HO)} {ps : List Addr} {ce : List Cl} {t : Addr} {xs : List V} {ds : List Dt}
theorem rl_nil (R : Rl G fr ps [] H) : ps = [] := List.length_eq_zero_iff.mp R.ln
/-- what a promise of old is told: the things beside the ground; and back -/
theorem rl_old (R : Rl G fr [] [] H) : ∃ l, Has G H l ∧ (∀ G' H', Ex G G' → Has G' H' l → Rl G' fr [] [] H') ∧ ∀ G' H' t xs ds, Ex G G' → Has G' H' ((t, .lst xs) :: l) → Iss G' xs ds → Rl G' fr [t] [.own ds] H' := by
  have inl : ∀ {f : Addr × HO}, f ∈ fr.filter (fun f => (G f.1).isNone) ↔ f ∈ fr ∧ G f.1 = none := fun {f} => by
    rw [List.mem_filter, Option.isNone_iff_eq_none]
  have nd : ((fr.filter fun f => (G f.1).isNone).map (·.1)).Nodup := R.nf.sublist (List.Sublist.map _ List.filter_sublist)
  have held : ∀ f ∈ fr, G f.1 ≠ none → (∃ ts, f.2 = .tup ts) ∧ G f.1 = some f.2 := fun f hf hg => by
    obtain ⟨h1, h2⟩ := R.fo f hf
    refine ⟨h1.elim (fun z => absurd z hg) id, ?_⟩
    cases g : G f.1 with
    | none => exact absurd g hg
    | some u =>
      have := R.ex _ _ g
      rw [h2] at this
      exact this.symm ▸ rfl
  have back : ∀ G' H', Ex G G' → Ex G' H' → (∀ f ∈ fr.filter (fun f => (G f.1).isNone), G' f.1 = none ∧ H' f.1 = some f.2) → ∀ f ∈ fr, (G' f.1 = none ∨ ∃ ts, f.2 = .tup ts) ∧ H' f.1 = some f.2 := fun G' H' e e' h f hf => by
    by_cases g : G f.1 = none
    · obtain ⟨h1, h2⟩ := h f (inl.mpr ⟨hf, g⟩)
      exact ⟨.inl h1, h2⟩
    · obtain ⟨h1, h2⟩ := held f hf g
      exact ⟨.inr h1, e' _ _ (e _ _ h2)⟩
  refine ⟨fr.filter fun f => (G f.1).isNone, ⟨R.ex, fun f hf => ?_, nd⟩, fun G' H' e S => ?_, fun G' H' t xs ds e S hx => ?_⟩
  · obtain ⟨h1, h2⟩ := inl.mp hf
    exact ⟨h2, (R.fo f h1).2⟩
  · exact ⟨S.ex, rfl, List.nodup_nil, (fun k p c h1 _ => by cases h1), back G' H' e S.ex S.own, R.nf, fun f _ hm => absurd hm List.not_mem_nil⟩
  · obtain ⟨h1, h2⟩ := S.own (t, .lst xs) List.mem_cons_self
    have sn := S.nd
    rw [List.map_cons, List.nodup_cons] at sn
    have bk := back G' H' e S.ex (fun f hf => S.own f (List.mem_cons_of_mem _ hf))
    refine ⟨S.ex, rfl, List.nodup_cons.mpr ⟨List.not_mem_nil, List.nodup_nil⟩, fun k p c e1 e2 => ?_, bk, R.nf, fun f hf hm => ?_⟩
    · cases k with
      | zero =>
        cases e1
        cases e2
        exact ⟨h1, xs, h2, hx⟩
      | succ k => cases e1
    · rw [List.mem_singleton] at hm
      by_cases g : G f.1 = none
      · exact sn.1 (hm ▸ List.mem_map.mpr ⟨f, inl.mpr ⟨hf, g⟩, rfl⟩)
      · have := e _ _ (held f hf g).2
        rw [hm, show G' t = none from h1] at this
        cases this
theorem has_rl0 (h : Has G H []) : Rl G [] [] [] H := ⟨h.ex, rfl, List.nodup_nil, (fun k p c h1 _ => by cases h1), (fun f h => absurd h List.not_mem_nil), List.nodup_nil, fun f _ hm => absurd hm List.not_mem_nil⟩
/-- a tuple that stands is taken into the ground -/
theorem Rl.takeT (R : Rl G fr ps ce H) {b : Addr} {xs : List V} (hb : H b = some (.tup xs)) : ∃ G', Ex G G' ∧ G' b = some (.tup xs) ∧ Rl G' fr ps ce H := by
  cases g : G b with
  | some u =>
    have := R.ex _ _ g
    rw [hb] at this
    exact ⟨G, Ex.rfl', by rw [g, ← this], R⟩
  | none =>
    have eG : Ex G (upd G b (.tup xs)) := Evl.Ex.new g
    refine ⟨_, eG, upd_same, ⟨fun a u h => ?_, R.ln, R.nd, fun j q c h1 h2 => ?_, fun f hf => ?_, R.nf, R.sp⟩⟩
    · by_cases e : a = b
      · subst e
        rw [upd_same] at h
        cases h
        exact hb
      · rw [upd_ne e] at h
        exact R.ex a u h
    · have h := R.ce j q c h1 h2
      cases c with
      | own ds =>
        obtain ⟨a, ys, c, d⟩ := h
        have ne : q ≠ b := fun e => by
          rw [e, hb] at c
          cases c
        exact ⟨by rw [upd_ne ne]; exact a, ys, c, d.ex eG⟩
      | frz ds =>
        obtain ⟨ys, c, d⟩ := h
        exact ⟨ys, eG _ _ c, d.ex eG⟩
      | any o =>
        refine ⟨?_, h.2⟩
        by_cases e : q = b
        · subst e
          have := h.2
          rw [hb] at this
          cases this
          exact .inr ⟨xs, rfl⟩
        · rw [upd_ne e]
          exact h.1
    · obtain ⟨h1, h2⟩ := R.fo f hf
      refine ⟨?_, h2⟩
      by_cases e : f.1 = b
      · rw [e, hb] at h2
        exact .inr ⟨xs, (Option.some.inj h2).symm⟩
      · rw [upd_ne e]
        exact h1
end
section
variable {P : Program} {w : World} {K : PySem.W.Frag} {mg : Str → Option Value} {base : Heap} {k j : Nat} {x : Str} {ps ks : List Str} {sp : Sp} {d d' : XF} {ix : List Nat}
theorem DOk.of (O : Ok P w K mg base k x ps sp) (h : ∀ vs H Q E, spOf d vs H Q E → sp vs H Q E) : DOk P w K mg base k x ps d := by
  obtain ⟨f, fd, F, g, kp, b⟩ := O
  exact ⟨f, fd, (FnG.of F).imp h, g, kp, b⟩
theorem spOf_imp (h : ∀ as ce Q, d' as ce Q → d as ce Q) {vs : List V} {H : Hp} {Q : VK} {E : XK} (q : spOf d' vs H Q E) : spOf d vs H Q E := by
  obtain ⟨G, fr, ps, ce, as, Qd, R, o, q, f⟩ := q
  exact ⟨G, fr, ps, ce, as, Qd, R, o, h _ _ _ q, f⟩
theorem DOk.imp (O : DOk P w K mg base k x ps d) (h : ∀ as ce Q, d' as ce Q → d as ce Q) : DOk P w K mg base k x ps d' := by
  obtain ⟨f, fd, F, g, kp, b⟩ := O
  exact ⟨f, fd, F.imp fun vs H Q E q => spOf_imp h q, g, kp, b⟩
/-! calls by names -/
def sel {α : Type} (ix : List Nat) (l : List α) : List α := ix.filterMap fun i => l[i]?
theorem sel_rel {vs : List V} {us : List Value} (h : Vals vs us) : ∀ ix : List Nat, Vals (sel ix vs) (sel ix us)
  | [] => .nil
  | i :: ix => by
    have ih := sel_rel h ix
    unfold sel at ih ⊢
    cases e : vs[i]? with
    | none =>
      rw [List.filterMap_cons_none e, List.filterMap_cons_none (by rw [List.getElem?_eq_none_iff] at e ⊢; rw [← h.length]; exact e)]
      exact ih
    | some v =>
      obtain ⟨u, hu, r⟩ := h.get e
      rw [List.filterMap_cons_some e, List.filterMap_cons_some hu]
      exact .cons r ih
theorem RfsOk.at {G : Hp} {ps : List Addr} {vs : List V} {as : List Rf} (h : RfsOk G ps vs as) : ∀ (i : Nat) r, as[i]? = some r → ∃ v, vs[i]? = some v ∧ RfOk G ps v r := by
  induction h with
  | nil => intro i r e; cases e
  | cons h _ ih =>
    intro i r e
    cases i with
    | zero => cases e; exact ⟨_, rfl, h⟩
    | succ i => exact ih i r e
theorem sel_refs {G : Hp} {qs : List Addr} {vs : List V} {rs : List Rf} (h : RfsOk G qs vs rs) : ∀ ix : List Nat, RfsOk G qs (sel ix vs) (sel ix rs)
  | [] => .nil
  | i :: ix => by
    have ih := sel_refs h ix
    unfold sel at ih ⊢
    cases e : rs[i]? with
    | none =>
      rw [List.filterMap_cons_none e, List.filterMap_cons_none (by rw [List.getElem?_eq_none_iff] at e ⊢; rw [h.len]; exact e)]
      exact ih
    | some r =>
      obtain ⟨v, hv, o⟩ := h.at i r e
      rw [List.filterMap_cons_some e, List.filterMap_cons_some hv]
      exact .cons o ih
/-- by names alone -/
def selK {α : Type} (ix : List Nat) : List α → List α → List α
  | [], zs => sel ix zs
  | _ :: _, _ => []
theorem selK_rel (ix : List Nat) {vs : List V} {us : List Value} {zs : List V} {ws : List Value} (h1 : Vals vs us) (h2 : Vals zs ws) : Vals (selK ix vs zs) (selK ix us ws) := by
  cases h1 with
  | nil => exact sel_rel h2 ix
  | cons a b => exact .nil
def KOk (P : Program) (w : World) (K : PySem.W.Frag) (mg : Str → Option Value) (base : Heap) (k : Nat) (x : Str) (ps ks : List Str) (ix : List Nat) (d : XF) : Prop :=
  ∃ (f : Addr) (fd : FuncData), FnG P w K mg base k f fd ps (spOf d) ∧ mg x = some (.ref f) ∧ PySem.W.keepIn K (.ref f) = true ∧ KBinds K fd ps ks (selK ix) (selK ix)
theorem KOk.of {st : Stmt} (D : Dfn K mg x st ps) (F : ∀ f fd, Fun K x x st f fd → FnOk P w K mg base CX0 k f fd ps sp) (B : ∀ f fd, Fun K x x st f fd → KBinds K fd ps ks (selK ix) (selK ix)) (h : ∀ vs H Q E, spOf d vs H Q E → sp vs H Q E) : KOk P w K mg base k x ps ks ix d := by
  obtain ⟨f, fd, F0, g, b⟩ := D
  exact ⟨f, fd, (FnG.of (F f fd F0)).imp h, g, F0.kp, B f fd F0⟩
theorem run_gk {X : Cx} {f : Addr} {fd : FuncData} {ps ks : List Str} {sp : Sp} {g : List Value → List Value → List Value} {gV : List V → List V → List V} {pins : List (Addr × Obj)} {σ : L2.St} {H : Hp} {s : Shared} {Q : VK} {us ws : List Value} {vs zs : List V} (F : FnG X.prog X.w X.K X.mg X.base k f fd ps sp) (hc : Calm0 X.A) (hr : Room k X.A) (hb : KBinds X.K fd ps ks g gV)
    (I : Inv X pins σ H s) (r : Vals vs us) (rz : Vals zs ws) (h : sp (gV vs zs) H Q E0) : wpAny (model X.prog X.w) X.A (call (.ref f) us (ks.zip ws)) (EP X pins σ Q) X.xe s := by
  have r2 := hb.rel r rz
  have hl : (g us ws).length = ps.length := by rw [← r2.length]; exact F.len _ _ _ _ h
  refine wpAny_call (codeAny_mono (F.run (outer := X.stack) hc hr I.env0 (hb.to s us ws I.kIn hl) r2 h) fun res s' q => ?_)
  match res, q with
  | .error e, q => exact q.elim
  | .ok (.ret u), q => exact I.after q
  | .ok .next, q => exact q.elim
  | .ok .brk, q => exact q.elim
  | .ok .cont, q => exact q.elim
end
section
variable {ι : Type} {F : ι → Cx} {e : Expr} {es : List Expr} {da : XE} {dl : XA} {p pos : Pos} {kws : List Keyword} {x : Str}
def DK {ι : Type} (F : ι → Cx) (kws : List Keyword) (d : XA) : Prop := ∃ t, (∀ i, PK (F i) kws t) ∧ SA t d
theorem dk_nil : DK F [] nilD := ⟨_, fun _ => pk_nil, fun G fr ps s σ H Q Qd R L q f => f _ _ G ps H _ q .rfl' R .nil⟩
theorem dk_cons {nm : Option Str} {kpos : Pos} (ha : DE F e da) (hr : DK F kws dl) : DK F (⟨nm, e, kpos⟩ :: kws) (consD da dl) := by
  obtain ⟨t, p, sa⟩ := ha
  obtain ⟨u, q, sr⟩ := hr
  refine ⟨_, fun j => pk_cons (p j) (q j), fun G fr ps s σ H Q Qd R L h f => ?_⟩
  refine sa G fr ps s σ H _ _ R L h fun x ce1 G1 ps1 H1 v q1 u1 R1 v1 => ?_
  refine sr G1 fr ps1 ⟨s.sl, ce1⟩ σ H1 _ _ R1 (L.up u1) q1 fun xs ce2 G2 ps2 H2 vs q2 u2 R2 vs2 => ?_
  exact f _ _ G2 ps2 H2 _ q2 (u1.trans u2) R2 (.cons (v1.up u2) vs2)
/-- f(a=.., b=..), no cell goes along -/
def calK (ix : List Nat) (d : XF) (dl : XA) : XE := fun s Q => dl s fun rs ce => ∃ ts, treesOf ce (sel ix rs) = some ts ∧ d (ts.map .d) [] (backP (lentOf ce (sel ix rs)) ce Q)
theorem de_k {k : Nat} {ps ks : List Str} {ix : List Nat} {d : XF} (O : ∀ i, KOk (F i).prog (F i).w (F i).K (F i).mg (F i).base k x ps ks ix d) (hc : ∀ i, Calm0 (F i).A) (hr : ∀ i, Room k (F i).A) (ha : DK F kws dl) (hg : ∀ i, Gl (F i) x := by intro _; rfl)
    (hall : ∀ i, (backToKw pos (keywordEach kws (F i).env)).all (·.1.isSome) = true := by intro _; rfl) (hks : ∀ i, (backToKw pos (keywordEach kws (F i).env)).filterMap (·.1) = ks := by intro _; rfl) (hdb : (x == ("__debug__" : Str)) = false := by decide)
    (hpl : ∀ i, ((backTo pos (starEach [] (F i).env)).any (·.1) || (backToKw pos (keywordEach kws (F i).env)).any (·.1.isNone)) = false := by intro _; rfl) : DE F (.Call (.Name x p) [] kws pos) (calK ix d dl) := by
  obtain ⟨t, q, sa⟩ := ha
  refine ⟨fun σ H Q => t σ H fun zs H2 => spOf d (sel ix zs) H2 Q E0, fun i => ⟨fun pins s σ H Q I h => ?_⟩, fun G fr ps s σ H Q Qd R L h f => ?_⟩
  · obtain ⟨fa, fd, FG, g, kp, b⟩ := O i
    refine wpAny_Call_Name_kw (ld_glob I (hg i) g (PySem.W.callWith_KW0 (h₀ := (F i).base) I.ok.mod.kin kp (hall i) (thn ((q i).run pos pins s σ H _ I h) fun ws s2 h2 => ?_) (hpl i)) hdb)
    obtain ⟨zs, H2, I2, rz, q2⟩ := h2
    rw [hks i]
    exact ⟨I2.kIn, run_gk (us := []) (vs := []) FG (hc i) (hr i) b I2 .nil rz q2⟩
  · refine sa G fr ps s σ H _ _ R L h fun rs ce1 G1 ps1 H1 vs q1 u1 R1 v1 => ?_
    exact sc_calP G1 fr ps1 ce1 H1 (sel ix vs) (sel ix rs) _ _ R1 (sel_refs v1 ix) q1 (f.up u1)
/-! C(..) -/
theorem de_make {f C : Addr} {fd : FuncData} {ps : List Str} {sp : Sp} {k : Nat} {d : XF} (M : ∀ i, Mk (F i).K C f) (FO : ∀ i, FnOk (F i).prog (F i).w (F i).K (F i).mg (F i).base CX0 k f fd ps sp) (hr : ∀ i, Room (k + 1) (F i).A) (hg : ∀ i, Gl (F i) x) (hm : ∀ i, (F i).mg x = some (.ref C)) (hb : ∀ i, Binds (F i).K fd ps [])
    (h : ∀ vs H Q, spOf d vs H Q E0 → ∀ x dx, H x = none → H dx = none → dx ≠ x → sp (.ref x :: vs) (upd (upd H dx (.own x)) x (.ins C dx [])) (fun v H2 => v = .non ∧ Q (.ref x) H2) E0)
    (ha : DA F (e :: es) dl) (hdb : (x == ("__debug__" : Str)) = false := by decide) (he : ∀ i, starEach (e :: es) (F i).env = (false, eval e (F i).env) :: starEach es (F i).env := by intro _; rfl) (hpl : ∀ i, (backTo pos (starEach es (F i).env)).any (·.1) = false := by intro _; rfl) :
    DE F (.Call (.Name x p) (e :: es) [] pos) (calP d dl) := by
  obtain ⟨t, q, sa⟩ := ha
  refine ⟨tMake C sp [] E0 t, fun i => pe_make (M i) (FO i) (hr i) (hg i) (hm i) (hb i) .nil pass0 (q i) hdb (he i) (hpl i), fun G fr ps s σ H Q Qd R L hh f => ?_⟩
  refine sa G fr ps s σ H _ _ R L hh fun rs ce1 G1 ps1 H1 vs q1 u1 R1 v1 => ?_
  have key := sc_calP G1 fr ps1 ce1 H1 vs rs _ _ R1 v1 q1 (f.up u1)
  intro x dx n1 n2 n3
  have := h vs H1 _ key x dx n1 n2 n3
  rw [List.append_nil]
  exact this
/-! o.name, a property -/
def prpD (C : Addr) (r : Dt → List Cl → XQ → Prop) (a : XE) : XE := fun s Q => a s fun x ce => ∃ fs, x = .d (.ins C fs) ∧ r (.ins C fs) ce Q
def SPr (C : Addr) (sp : Sp) (r : Dt → List Cl → XQ → Prop) : Prop := ∀ G fr ps ce H a t Q Qd, Rl G fr ps ce H → Is G (.ref a) t → r t ce Qd → Fin' G fr ps Qd Q → sp [.ref a] H Q E0
theorem de_prop {C pa g : Addr} {f : Str} {fd : FuncData} {sp : Sp} {k : Nat} {r : Dt → List Cl → XQ → Prop} (c : ∀ i, Cls (F i).K C) (hp : ∀ i, PropOf (F i).K C f pa g) (FO : ∀ i, FnOk (F i).prog (F i).w (F i).K (F i).mg (F i).base CX0 k g fd ["self"] sp) (hr : ∀ i, Room (k + 1) (F i).A) (hb : ∀ i, Binds (F i).K fd ["self"] [])
    (h : SPr C sp r) (he : DE F e da) (hab : ∀ i, attributeBase e f (F i).env (eval e (F i).env) = eval e (F i).env := by intro _; rfl) : DE F (.Attribute e f pos) (prpD C r da) := by
  obtain ⟨t, q, sa⟩ := he
  refine ⟨tProp C sp [] E0 t, fun i => pe_prop (q i) (c i) (hp i) (FO i) (hr i) (hb i) .nil pass0 (hab i), fun G fr ps s σ H Q Qd R L hh f => ?_⟩
  refine sa G fr ps s σ H _ _ R L hh fun x ce1 G1 ps1 H1 v q1 u1 R1 v1 => ?_
  obtain ⟨fs, rfl, q1⟩ := q1
  have v1 : Is G1 v (.ins C fs) := v1
  cases id v1 with
  | ins h1 h2 h3 => exact ⟨_, _, _, rfl, R1.ex _ _ h1, h _ _ _ _ _ _ _ _ _ R1 v1 q1 (f.up u1)⟩
end
end TD
set_option Elab.async false
set_option linter.all false
set_option maxRecDepth 100000
set_option maxHeartbeats 1000000
/-! lookups -/
namespace TD
open PySem PySem.Spec PyProof.Rows L2 TW
theorem rg_small {n : Nat} (h : n ≤ 100000) : -2 ^ 62 ≤ (n : Int) ∧ (n : Int) < 2 ^ 62 := ⟨by omega, by omega⟩
theorem at_nat {α : Type} {l : List α} {i : Nat} {d : α} (h : l[i]? = some d) : atI l (i : Int) = some d := by
  unfold atI ixN
  have := (List.getElem?_eq_some_iff.mp h).1
  rw [if_pos (by omega), if_pos (by omega)]
  exact h
theorem at_zero {α : Type} {l : List α} {d : α} : atI (d :: l) 0 = some d := at_nat (i := 0) rfl
theorem at_last {α : Type} {l : List α} {d : α} : atI (l ++ [d]) (-1) = some d := by
  unfold atI ixN
  rw [if_neg (by omega), if_pos (by rw [List.length_append, List.length_singleton]; omega), List.length_append, List.length_singleton]
  show (l ++ [d])[((-1 : Int) + ((l.length + 1 : Nat) : Int)).toNat]? = _
  rw [show ((-1 : Int) + ((l.length + 1 : Nat) : Int)).toNat = l.length by omega]
  exact get_last _ _
theorem ix_nat {n i : Nat} (h : i < n) : ixN n (i : Int) = some i := by
  unfold ixN
  rw [if_pos (by omega), if_pos (by omega), Int.toNat_natCast]
theorem own_pre {ce x : List Cl} {k : Nat} {c : Cl} (h : ce[k]? = some c) : (ce ++ x)[k]? = some c := by
  rw [List.getElem?_append_left (List.getElem?_eq_some_iff.mp h).1]
  exact h
theorem get_end {ce : List Cl} {c : Cl} : (ce ++ [c])[ce.length]? = some c := get_last _ _
theorem items_own {ce : List Cl} {k : Nat} {ds : List Dt} (h : ce[k]? = some (.own ds)) : itemsOf ce (.c k) = some ds := by
  show (match ce[k]? with | some (.own ds) => some ds | some (.frz ds) => some ds | _ => none) = _
  rw [h]
theorem lst_own {ce : List Cl} {k : Nat} {ds : List Dt} (h : ce[k]? = some (.own ds)) : lstOf ce (.c k) = some ds := items_own h
theorem tree_own {ce : List Cl} {k : Nat} {ds : List Dt} (h : ce[k]? = some (.own ds)) : treeOf ce (.c k) = some (.lst ds) := by
  show (match ce[k]? with | some (.own ds) => some (Dt.lst ds) | some (.frz ds) => some (Dt.lst ds) | _ => none) = _
  rw [h]
theorem lst_end {ce : List Cl} {ds : List Dt} : lstOf (ce ++ [.own ds]) (.c ce.length) = some ds := lst_own get_end
theorem tree_end {ce : List Cl} {ds : List Dt} : treeOf (ce ++ [.own ds]) (.c ce.length) = some (.lst ds) := tree_own get_end
theorem cutL_from {α : Type} (l : List α) (i : Nat) : cutL l (some (i : Int)) none = l.drop i := by
  unfold cutL
  rw [HT.sIx_nat, HT.sIx_none, List.take_of_length_le (by rw [List.length_drop]; omega)]
  by_cases h : i ≤ l.length
  · rw [Nat.min_eq_left h]
  · rw [Nat.min_eq_right (by omega), List.drop_eq_nil_of_le (Nat.le_refl _), List.drop_eq_nil_of_le (by omega)]
theorem cutL_to {α : Type} (l : List α) (i : Nat) : cutL l none (some (i : Int)) = l.take i := by
  unfold cutL
  rw [HT.sIx_nat, HT.sIx_none, List.drop_zero, Nat.sub_zero]
  by_cases h : i ≤ l.length
  · rw [Nat.min_eq_left h]
  · rw [Nat.min_eq_right (by omega), List.take_of_length_le (Nat.le_refl _), List.take_of_length_le (by omega)]
/-- what a def returns out of a cell of its own -/
theorem ret_own {Qd : XQ} {ce : List Cl} {k : Nat} {ds : List Dt} (h : ce[k]? = some (.own ds)) (q : Qd (.c 0) [.own ds]) : retQ 0 Qd (.c k) ce := by
  unfold retQ
  dsimp only
  rw [if_neg (Nat.not_lt_zero _), h]
  exact q
theorem var_at {i : Nat} {r : Rf} {s : Ds} {Q : XQ} (h : s.sl[i]? = some (some r)) (q : Q r s.ce) : varD i s Q := by
  unfold varD
  rw [h]
  exact q
end TD
namespace TD
open PySem PySem.Spec PyProof.Rows L2 TW
/-! comprehensions whose items are worked out with cells of their own -/
theorem take_pre {α : Type} (l y : List α) : (l ++ y).take l.length = l := by
  rw [List.take_append_of_le_length (Nat.le_refl _), List.take_length]
theorem comp_filtE {α : Type} {g : XG} {tt : XT} {te : XE} {vs : List Nat} {sl : List (Option Rf)} {xs : List α} {h : α → Dt} {keep : List Cl → Prop} {ce : List Cl} {Q : XQ} (p : α → Bool) (f : α → Dt) (l : xs.length < 100000) (hk : keep ce)
    (hs : ∀ x ∈ xs, ∀ (R : XQ) (N : List Cl → Prop), (p x = true → ∀ y, R (.d (f x)) (ce ++ y)) → (p x = false → ∀ y, N (ce ++ y)) → g (.d (h x)) ⟨wipeL sl vs, ce⟩ fun s1 => tt s1 fun b c2 => if b = true then te ⟨s1.sl, c2⟩ R else N c2)
    (q : Q (.c ce.length) (ce ++ [.own ((xs.filter p).map f)])) : compB g tt te vs sl (xs.map h) keep ce Q := by
  unfold compB
  rw [List.length_map]
  refine ⟨l, fun i acc c => acc = ((xs.take i).filter p).map f ∧ c = ce, ⟨rfl, rfl⟩, fun i acc c _ hI => by rw [hI.2]; exact hk, fun i t acc c hi _ hI => ?_, fun acc c hI => ?_⟩
  · obtain ⟨rfl, rfl⟩ := hI
    rw [List.getElem?_map] at hi
    cases e : xs[i]? with
    | none => rw [e] at hi; cases hi
    | some x =>
      rw [e] at hi
      cases hi
      refine hs x (List.mem_of_getElem? e) _ _ (fun hp y => ?_) (fun hp y => ?_)
      · exact ⟨by rw [take_snoc e, List.filter_append, List.filter_cons_of_pos hp, List.filter_nil, List.map_append]; rfl, take_pre _ _⟩
      · exact ⟨by rw [take_snoc e, List.filter_append, List.filter_cons_of_neg (by rw [hp]; exact Bool.false_ne_true), List.filter_nil, List.append_nil], take_pre _ _⟩
  · obtain ⟨rfl, rfl⟩ := hI
    rw [List.take_length]
    exact q
theorem comp_mapE {α : Type} {g : XG} {te : XE} {vs : List Nat} {sl : List (Option Rf)} {xs : List α} {h : α → Dt} {keep : List Cl → Prop} {ce : List Cl} {Q : XQ} (f : α → Dt) (l : xs.length < 100000) (hk : keep ce) (hs : ∀ x ∈ xs, ∀ R : XQ, (∀ y, R (.d (f x)) (ce ++ y)) → g (.d (h x)) ⟨wipeL sl vs, ce⟩ fun s1 => te s1 R)
    (q : Q (.c ce.length) (ce ++ [.own (xs.map f)])) : compB g yesD te vs sl (xs.map h) keep ce Q := by
  refine comp_filtE (fun _ => true) f l hk (fun x hx R N hR _ => ?_) ?_
  · exact hs x hx R (hR rfl)
  · rw [List.filter_eq_self.mpr fun _ _ => rfl]
    exact q
theorem comp_rngE {g : XG} {te : XE} {vs : List Nat} {sl : List (Option Rf)} {n : Nat} {ce : List Cl} {Q : XQ} (f : Nat → Dt) (l : n < 100000) (hs : ∀ x, x < n → ∀ R : XQ, (∀ y, R (.d (f x)) (ce ++ y)) → g (.d (.int (x : Nat))) ⟨wipeL sl vs, ce⟩ fun s1 => te s1 R)
    (q : Q (.c ce.length) (ce ++ [.own ((List.range n).map f)])) : compB g yesD te vs sl (rngL 0 ((n : Nat) : Int).toNat) (fun _ => True) ce Q := by
  rw [rng0]
  exact comp_mapE f (by rw [List.length_range]; exact l) trivial (fun x hx => hs x (List.mem_range.mp hx)) q
theorem comp_rngFE {g : XG} {tt : XT} {te : XE} {vs : List Nat} {sl : List (Option Rf)} {n : Nat} {ce : List Cl} {Q : XQ} (p : Nat → Bool) (f : Nat → Dt) (l : n < 100000)
    (hs : ∀ x, x < n → ∀ (R : XQ) (N : List Cl → Prop), (p x = true → ∀ y, R (.d (f x)) (ce ++ y)) → (p x = false → ∀ y, N (ce ++ y)) → g (.d (.int (x : Nat))) ⟨wipeL sl vs, ce⟩ fun s1 => tt s1 fun b c2 => if b = true then te ⟨s1.sl, c2⟩ R else N c2)
    (q : Q (.c ce.length) (ce ++ [.own (((List.range n).filter p).map f)])) : compB g tt te vs sl (rngL 0 ((n : Nat) : Int).toNat) (fun _ => True) ce Q := by
  rw [rng0]
  exact comp_filtE p f (by rw [List.length_range]; exact l) trivial (fun x hx => hs x (List.mem_range.mp hx)) q
theorem nxt_take {n0 : Nat} {I : Ds → Prop} {s : Ds} (h : n0 ≤ s.ce.length) (hI : I (gcS (List.range n0) s)) : nxt n0 I s := .inr ⟨List.range n0, ⟨List.nodup_range, fun k hk => Nat.lt_of_lt_of_le (List.mem_range.mp hk) h, List.take_of_length_le (by rw [List.length_range]; exact Nat.le_refl _)⟩, hI⟩
theorem next_take {E : Ed} {s : Ds} {n0 : Nat} {I : Ds → Prop} (e : E.nx = nxt n0 I) (h : n0 ≤ s.ce.length) (hI : I (gcS (List.range n0) s)) : nextD E s := by
  show E.nx s
  rw [e]
  exact nxt_take h hI
theorem nx_take {E : Ed} {s : Ds} {n0 : Nat} {I : Ds → Prop} (e : E.nx = nxt n0 I) (h : n0 ≤ s.ce.length) (hI : I (gcS (List.range n0) s)) : E.nx s := by
  rw [e]
  exact nxt_take h hI
/-- the first k cells are kept -/
theorem nxt_upto {n0 k : Nat} {I : Ds → Prop} {s : Ds} (h : n0 ≤ k) (hk : k ≤ s.ce.length) (hI : I (gcS (List.range k) s)) : nxt n0 I s := .inr ⟨List.range k, ⟨List.nodup_range, fun j hj => Nat.lt_of_lt_of_le (List.mem_range.mp hj) hk, by rw [List.take_range, Nat.min_eq_left h]⟩, hI⟩
theorem nx_upto {E : Ed} {s : Ds} {n0 k : Nat} {I : Ds → Prop} (e : E.nx = nxt n0 I) (h : n0 ≤ k) (hk : k ≤ s.ce.length) (hI : I (gcS (List.range k) s)) : E.nx s := by
  rw [e]
  exact nxt_upto h hk hI
end TD
set_option Elab.async false
set_option linter.all false
set_option maxRecDepth 100000
set_option maxHeartbeats 1000000
/-! the law's own parameter: a list of ints that others hold -/
namespace TD
open PySem PySem.Spec PyProof.Rows L2 TW
def scrP (K : PySem.W.Frag) (ns : List Int) : Hp → V → Prop := fun H v => ∃ a, v = .ref a ∧ SqL K H a (ns.map V.int)
theorem cut_ints (ns : List Int) (lo hi : Option Int) : cutV (ns.map V.int) lo hi = (cutL ns lo hi).map V.int := by
  unfold cutV cutL
  rw [List.length_map, List.map_take, List.map_drop]
def slP (K : PySem.W.Frag) (e : XE) (l h : XP) : XE := fun s Q => e s fun a ce => l ⟨s.sl, ce⟩ fun lo ce1 => h ⟨s.sl, ce1⟩ fun hi ce2 => ∃ ns, a = .d (.prm (scrP K ns)) ∧ Q (.c ce2.length) (ce2 ++ [.own ((cutL ns lo hi).map .int)])
section
variable {ι : Type} {F : ι → Cx} {K : PySem.W.Frag} {e : Expr} {da : XE} {pos : Pos}
theorem de_slP {lo hi : Option Expr} {p2 : Pos} {dlo dhi : XP} (he : DE F e da) (hl : DP F lo dlo) (hh : DP F hi dhi) (hK : ∀ i, (F i).K = K := by intro _; rfl) : DE F (.Subscript e (.Slice lo hi none p2) pos) (slP K da dlo dhi) := by
  obtain ⟨t, p, sa⟩ := he
  obtain ⟨tl, pl, sl⟩ := hl
  obtain ⟨th, ph, sh⟩ := hh
  refine ⟨_, fun j => pe_slice (r := rSlL K) (by have := hK j; subst this; exact sl_list) (p j) (pl j) (ph j), fun G fr ps s σ H Q Qd R L h f => ?_⟩
  refine sa G fr ps s σ H _ _ R L h fun a ce1 G1 ps1 H1 v q1 u1 R1 v1 => ?_
  refine sl G1 fr ps1 ⟨s.sl, ce1⟩ σ H1 _ _ R1 (L.up u1) q1 fun lo ce2 G2 ps2 H2 lo' q2 u2 R2 k2 => ?_
  obtain rfl : lo' = lo := k2
  refine sh G2 fr ps2 ⟨s.sl, ce2⟩ σ H2 _ _ R2 (L.up (u1.trans u2)) q2 fun hi ce3 G3 ps3 H3 hi' q3 u3 R3 k3 => ?_
  obtain rfl : hi' = hi := k3
  have v3 := v1.up (u2.trans u3)
  have f3 := f.up ((u1.trans u2).trans u3)
  obtain ⟨ns, rfl, q⟩ := q3
  have v3 : Is G3 v (.prm (scrP K ns)) := v3
  cases v3 with
  | prm _ h =>
    obtain ⟨b, rfl, hS⟩ := h H3 R3.ex
    refine ⟨b, _, rfl, hS, ?_⟩
    rw [cut_ints]
    exact fin_lst f3 R3 (iss_ints _ _) q
end
section
variable {P : Program} {w : World} {K : PySem.W.Frag} {mg : Str → Option Value} {base : Heap} {k : Nat} {x : Str} {st : Stmt} {ps N : List Str} {d : XF} {tb : XS} {f : Addr} {fd : FuncData}
theorem def_g (D : Fun K x x st f fd) (S : FnScope N ps (defScope st)) (hl : ∀ as ce Q, d as ce Q → as.length = ps.length)
    (hb : ∀ (f : Addr) (cdv : Value) (A : Around) (outer : List Env) (s : Shared) (H : Hp) (E : XK), Calm0 (A.deeper (envOfC x (defScope st) s.heap.objs.size f cdv)) → Room k (A.deeper (envOfC x (defScope st) s.heap.objs.size f cdv)) → DSs (fun _ : Unit => (cxOf CX0 P w K mg base N x (defScope st) f cdv A outer s H E).nox) (defBody st) tb)
    (h : ∀ as ce Qd, d as ce Qd → tb (edQ ce.length Qd) ⟨startD N.length as, ce⟩) : FnG P w K mg base (k + 1) f fd ps (spOf d) := fn_g D S (fun vs H Q E q => by
  obtain ⟨G, fr, ps', ce, as, Qd, R, o, q, _⟩ := q
  rw [o.len]
  exact hl as ce Qd q) fun cdv A outer s H vs Q E calm room q => by
  obtain ⟨G, fr, ps', ce, as, Qd, R, o, q, fin⟩ := q
  obtain ⟨t, p, ss⟩ := hb f cdv A outer s H E calm room
  have hq := h as ce Qd q
  rw [← R.ln] at hq
  have fq := retQ_ok fin
  exact ⟨t, p (), ss G fr ps' ps' ⟨startD N.length as, ce⟩ _ H _ _ List.prefix_rfl R (slok_start o) hq ⟨fun s' G' ps2 σ H' z e p' R' L' => fq (.d .non) s'.ce G' ps2 H' .non z e p' R' (show Is G' _ _ from .non), fun r ce' G' ps2 H' v z e p' R' o' => fq r ce' G' ps2 H' v z e p' R' o', fun _ _ _ _ _ z _ _ _ _ => z.elim, fun _ _ _ _ _ z _ _ _ _ => z.elim, rfl⟩⟩
end
/-- the law: true, whatever it is handed -/
def dLaw (K : PySem.W.Frag) : XF := fun as ce Q => ∃ ns : List Int, as = [.d (.prm (scrP K ns))] ∧ ce = [] ∧ ∀ ce', Q (.d (.bl true)) ce'
theorem law_sp {K : PySem.W.Frag} {H : Hp} {a : Addr} {ns : List Int} {E : XK} (h : SqL K H a (ns.map V.int)) : spOf (dLaw K) [.ref a] H (fun v _ => v = .bl true) E :=
  ⟨H, [], [], [], [.d (.prm (scrP K ns))], fun r _ => r = .d (.bl true), has_rl0 Has.nil, .cons (show Is H _ _ from .prm _ fun H' e => ⟨a, rfl, Evl.ex_l e h⟩) .nil, ⟨ns, rfl, rfl, fun _ => rfl⟩, fun r ce' G' ps' H' v hq _ _ _ o => by
    subst hq
    have o : Is G' v (.bl true) := o
    cases o
    rfl⟩
end TD
set_option Elab.async false
set_option linter.all false
set_option maxRecDepth 100000
set_option maxHeartbeats 2000000
/-! dicts: tuple(d) of int keys, sorted(d) of tuple keys, {t: v} with a tuple as its key -/
namespace TW
open PySem PySem.Spec PyProof.Rows L2
open PySem.W (EachIs AllAlike Sortable dataLt dataLe dataKind)
section
variable {prog : Program} {w : World} {A : Around} {E : Value → Shared → Prop} {s : Shared} {r d : Addr} {n : Nat} {P : Nat → Value → Prop} {OK : Heap → Prop}
theorem code_tuple_new_dict {Q₁ : Value → Shared → Prop} (K : PySem.W.KdlSrc prog w "dict" r d n P OK) (hh : A.handled = none) (hok : OK s.heap) (hn : n ≤ sizeLine)
    (h : ∀ (h' : Heap) (tk : Nat) (acc : Array Value), (∀ b o, s.heap.get? b = some o → h'.get? b = some o) → ItemsOf P acc n →
      Q₁ (.ref h'.objs.size) { s with heap := h'.push { cls := .type "tuple", data := .seq acc }, toks := tk }) :
    codeAny (model prog w) A (.call (.builtin "tuple.__new__") ⟨[.type "tuple", .ref r], []⟩) (wants Q₁ E) s := by
  refine codeAny_of_tree ?_
  show wpAny _ A.in1 (do checkBuiltinCall "tuple.__new__" ⟨[.type "tuple", .ref r], []⟩; again (.builtin "tuple.__new__" ⟨[.type "tuple", .ref r], []⟩)) _ _ s
  refine wpAny_bind (wpAny_of_eq (F.newCall_tuple_1 _) (wpAny_pure ⟨plainId_quiet F.plain_tuple_new _, codeAny_builtin F.entry_tuple_new ?_⟩))
  rw [Around.under_plainId F.plain_tuple_new _]
  have hsub := sub_tuple_self
  have hinit := init_tuple_lookup
  have hmh := madeHere_tuple
  have hTI : s.TypeIs (.ref r) "dict" := K.type s hok
  have hh1 : A.in1.handled = none := hh
  wp_walk using wpAny_typeOf hTI, PySem.W.kdu_collect (A := A.in1) K hh1 hok hn
  intro h' tk acc hk hacc
  show wpAny _ _ (Builtin.Tuple.tupleExact acc.toList.toArray >>= fun v => ret v) _ _ _
  unfold Builtin.Tuple.tupleExact
  refine wpAny_bind (wpAny_newObj_type ?_ (by show acc.toList.toArray.size ≤ sizeLine; simp only [Array.toArray_toList]; rw [hacc.1]; exact hn))
  refine wpAny_pure ?_
  have e : acc.toList.toArray = acc := by simp
  rw [e]
  exact h h' tk acc hk hacc
theorem call_tuple_dict {Q : Value → Shared → Prop} (K : PySem.W.KdlSrc prog w "dict" r d n P OK) (hh : A.handled = none) (hok : OK s.heap) (hn : n ≤ sizeLine)
    (hQ : ∀ (h' : Heap) (tk : Nat) (acc : Array Value), (∀ b o, s.heap.get? b = some o → h'.get? b = some o) → ItemsOf P acc n →
      Q (.ref h'.objs.size) { s with heap := h'.push { cls := .type "tuple", data := .seq acc }, toks := tk }) :
    wpAny (model prog w) A (call (.type "tuple") [.ref r]) Q E s := by
  refine callType_codes (Q₁ := fun obj s₁ => s₁.TypeIs obj "tuple" ∧ Q obj s₁) F.called_tuple (F.typeCall_tuple_1 _) F.entry_object_init
    (code_tuple_new_dict (A := A.in1) K hh hok hn fun h' tk acc hk hacc => ⟨⟨_, Heap.get?_push_size _ rfl, rfl⟩, hQ h' tk acc hk hacc⟩) fun obj s₁ h₁ => ?_
  exact ⟨h₁.1, F.args_object_init_2 obj _, object_init_meets F.called_tuple.init.lookup F.called_tuple.made (by decide) prog w A.in1 _ s₁ ⟨h₁.1, rfl, h₁.2⟩⟩
end
def rTupD : List V → Hp → VK → Prop := fun xs H Q => ∃ p kvs, xs = [.ref p] ∧ H p = some (.dK kvs) ∧ ∀ q, H q = none → Q (.ref q) (upd H q (.tup (kvs.map fun kv => kV kv.1)))
theorem call_tuple_dK {X : Cx} (hc : X.calm = true) : CallR X (.type "tuple") rTupD := by
  intro pins s σ H xs us Q I r h
  obtain ⟨p, kvs, e, hk, q⟩ := h
  subst e
  obtain ⟨u, eu, rx⟩ := vals1 r
  subst eu
  obtain rfl : u = Value.ref p := rx
  obtain ⟨z, lo, vs, rk, hd⟩ := (show ObjOk X.prog X.w H s.heap p (.dK kvs) from I.hok p _ hk)
  obtain ⟨ep, hat⟩ := hd.dictAt
  have hl : kvs.length = vs.length := Paired.length rk
  refine call_tuple_dict (PySem.W.kdl_dict (knd := mixKind X.prog X.w) (kvs := vs) (ep := ep) lo) (I.ok.hd hc) hat (by rw [← hl]; exact z) fun h' tk acc' hkeep hacc => ?_
  have I2 : Inv X pins σ H { s with heap := h', toks := tk } := I.kept hkeep
  refine ⟨.ref h'.objs.size, upd H h'.objs.size (.tup (kvs.map fun kv => kV kv.1)), I2.laid (t' := tk) (fun c o e => Heap.get?_push_of_some _ e) (Nat.le_refl _) (show ObjOk X.prog X.w _ _ _ (.tup (kvs.map fun kv => kV kv.1)) from ⟨?_, acc'.toList, ?_, ?_⟩), rfl, q _ (I2.hok.fresh (Nat.le_refl _))⟩
  · rw [List.length_map]; exact z
  · have el : acc'.toList.length = acc'.size := by simp
    refine vals_of_at (by rw [List.length_map, el, hacc.1, hl]) fun j x w h1 h2 => ?_
    obtain ⟨k, y, hky, hi⟩ := hacc.2 j w (by rw [← Array.getElem?_toList]; exact h2)
    have e1 : (kvs.map (·.1))[j]? = some k := by
      rw [KV.keys rk, List.getElem?_map, hky] <;> rfl
    have e2 : (kvs.map fun kv => kV kv.1)[j]? = some (kV k) := by
      have e3 : (kvs.map fun kv => kV kv.1) = (kvs.map (·.1)).map kV := by rw [List.map_map] <;> rfl
      rw [e3, List.getElem?_map, e1] <;> rfl
    rw [e2] at h1
    cases h1
    exact keyIs_rel hi
  · rw [Array.toArray_toList]; exact IsTup.new _ _
theorem perm_mapC {α β : Type} {f : α → β} : ∀ {xs : List α} {ys : List β}, ys.Perm (xs.map f) → ∃ W : List α, W.Perm xs ∧ ys = W.map f := by
  intro xs ys hpm
  have := hpm.symm
  generalize hl : xs.map f = l at this
  clear hpm
  induction this generalizing xs with
  | nil =>
    cases xs with
    | nil => exact ⟨[], .refl _, rfl⟩
    | cons c cs => cases hl
  | @cons b l1 l2 p ih =>
    cases xs with
    | nil => cases hl
    | cons c cs =>
      rw [List.map_cons, List.cons.injEq] at hl
      obtain ⟨e1, e2⟩ := hl
      obtain ⟨cs', p', e'⟩ := ih e2
      exact ⟨c :: cs', p'.cons c, by rw [List.map_cons, e1, e']⟩
  | swap b b2 l =>
    match xs, hl with
    | [], hl => cases hl
    | [_], hl => cases hl
    | c :: c2 :: cs, hl =>
      rw [List.map_cons, List.map_cons, List.cons.injEq, List.cons.injEq] at hl
      obtain ⟨e1, e2, e3⟩ := hl
      exact ⟨c2 :: c :: cs, .swap _ _ _, by rw [List.map_cons, List.map_cons, e1, e2, e3]⟩
  | trans p1 p2 ih1 ih2 =>
    obtain ⟨c1, q1, e1⟩ := ih1 hl
    obtain ⟨c2, q2, e2⟩ := ih2 e1.symm
    exact ⟨c2, q2.trans q1, e2⟩
/-! sorted(d) -/
def rSortDT : List V → Hp → VK → Prop := fun vs H Q => ∃ (d : Addr) (kvs : List (List Key × V)) (ks : List (List Int)), vs = [.ref d] ∧ H d = some (.dT kvs) ∧ kvs.map (·.1) = ks.map (·.map Sum.inl) ∧ ∀ (zs : List (Addr × List Int)) (p : Addr), (∀ z ∈ zs, H z.1 = some (.tup (z.2.map V.int))) → (zs.map (·.2)).Perm ks → zs.Pairwise (fun x y => HT.lexLt y.2 x.2 = false) → H p = none →
  Q (.ref p) (upd H p (.lst (zs.map fun z => V.ref z.1)))
theorem keys_at {H : Hp} : ∀ {kvs : List (List Key × V)} {bs : List Addr} {ks : List (List Int)}, IsKeys H kvs bs → kvs.map (·.1) = ks.map (·.map Sum.inl) → ∃ zs : List (Addr × List Int), zs.map (·.1) = bs ∧ zs.map (·.2) = ks ∧ ∀ z ∈ zs, H z.1 = some (.tup (z.2.map V.int)) := by
  intro kvs bs ks h
  unfold IsKeys at h
  induction h generalizing ks with
  | nil =>
    intro e
    cases ks with
    | nil => exact ⟨[], rfl, rfl, fun z hz => absurd hz List.not_mem_nil⟩
    | cons k ks => cases e
  | @cons p b ps bs h t ih =>
    intro e
    cases ks with
    | nil => cases e
    | cons k ks =>
      rw [List.map_cons, List.map_cons, List.cons.injEq] at e
      obtain ⟨zs, h1, h2, h3⟩ := ih e.2
      refine ⟨(b, k) :: zs, by rw [List.map_cons, h1], by rw [List.map_cons, h2], fun z hz => ?_⟩
      rcases List.mem_cons.mp hz with rfl | hz
      · rw [h, e.1, List.map_map]
        rfl
      · exact h3 z hz
theorem cr_sortedDT {X : Cx} (hc : X.calm = true) (hu : X.A.units + 64 < cLine) : CallR X (.builtin "sorted") rSortDT := by
  intro pins s σ H vs us Q I r h
  obtain ⟨d, kvs, ks, rfl, hd, hks, q⟩ := h
  rw [Vals.ref1 r]
  obtain ⟨z, hs, xs, pr, o, es, ep, ho, hx, hdt, he, hn⟩ := (show ObjOk X.prog X.w H s.heap d (.dT kvs) from I.hok d _ hd)
  have l1 : es.size = xs.length := size_of_entries he
  have l2 : kvs.length = xs.length := Paired.length pr
  obtain ⟨zs, hz1, hz2, hz3⟩ := keys_at (isKeys_of pr) hks
  have lz : zs.length = xs.length := by
    have := congrArg List.length hz1
    rw [List.length_map, List.length_map] at this
    exact this
  refine Calls.call_function_entry PyProof.Rows.kind_sorted PyProof.Rows.plain_sorted PyProof.Rows.entry_sorted (PyProof.Rows.args_sorted1 _) ?_
  unfold Builtin.«sorted»
  refine wpAny_bind (m := checkCount "sorted" 1 1 _) (wpAny_pure ?_)
  refine wpAny_bind (PySem.W.kdu_collect (A := X.A.in1) (kdl_raw hs hx hdt) (I.ok.hd hc) ho (by omega) fun h' tk acc hk hacc => ?_)
  have ea : acc.toList = zs.map fun y => Value.ref y.1 := by
    have e1 : (zs.map fun y => Value.ref y.1) = xs.map fun x => Value.ref x.2.1 := by
      have := congrArg (List.map Value.ref) hz1
      rw [List.map_map, List.map_map] at this
      exact this
    rw [e1]
    have hl : acc.toList.length = xs.length := by rw [Array.length_toList, hacc.1]; exact l1
    apply List.ext_getElem?
    intro j
    rw [List.getElem?_map]
    cases hj : acc.toList[j]? with
    | none =>
      have h1 := List.getElem?_eq_none_iff.mp hj
      rw [List.getElem?_eq_none (by omega)]
      rfl
    | some v =>
      obtain ⟨en, hen, hv⟩ := hacc.2 j v (by rw [← Array.getElem?_toList]; exact hj)
      have qe := entry_at he j
      rw [hen] at qe
      cases hb : xs[j]? with
      | none =>
        rw [hb] at qe
        exact nomatch (show some en = none from qe)
      | some b =>
        rw [hb] at qe
        have e2 : en = entryOfKey (tupleKind (mixKind X.prog X.w)) b := Option.some.inj qe
        rw [hv, e2]
        rfl
  have I1 : Inv X pins σ H { s with heap := h', toks := tk } := I.kept hk
  rw [ea]
  refine wpAny_bind (wpAny_newList ?_ (by rw [List.length_map, sizeLine_eq]; rw [sizeLine_eq] at z; omega))
  generalize hits : (zs.map fun y => Value.ref y.1) = its
  have hoL : (h'.push (seqObj "list" its.toArray 0)).get? h'.objs.size = some (seqObj "list" its.toArray 0) := Heap.get?_push_size _ rfl
  show wpAny _ _ _ _ _ { s with heap := h'.push (seqObj "list" its.toArray 0), toks := tk }
  -- what is sorted
  have e0 : EachIs (fun v (b : V × PyData) => RelV b.1 v) its (zs.map fun y => (V.ref y.1, tupD y.2)) := by
    rw [← hits]
    clear hits ea lz hz1 hz2 hz3 q
    induction zs with
    | nil => exact .nil
    | cons y ys ih => exact .cons rfl ih
  have keep : ∀ b u, h'.get? b = some u → (PySem.W.sortingHeap (h'.push (seqObj "list" its.toArray 0)) h'.objs.size its).get? b = some u := fun b u e =>
    PySem.W.sortingHeap_old (Nat.ne_of_lt (Heap.lt_size e)) (Heap.get?_push_of_some _ e)
  have er : EachIs (fun v (b : V × PyData) => ∃ as, Reads (PySem.W.sortingHeap (h'.push (seqObj "list" its.toArray 0)) h'.objs.size its) v b.2 as) its (zs.map fun y => (V.ref y.1, tupD y.2)) := by
    have e2 := PySem.W.each_mem e0
    refine e2.mono fun v b zz => ?_
    obtain ⟨y, hy, e3⟩ := List.mem_map.mp zz.2
    obtain ⟨as, rd⟩ := Dp.reads I1 b.2 b.1 v (by rw [← e3]; exact dp_lot (K := X.K) (Evl.st_of (hz3 y hy))) zz.1
    exact ⟨as, PyProof.Rows.Reads.keeps keep rd⟩
  have hal : AllAlike ((zs.map fun y => (V.ref y.1, tupD y.2)).map (·.2)) := by
    intro d1 hd1 d2 hd2
    rw [List.map_map] at hd1 hd2
    obtain ⟨b, hb, rfl⟩ := List.mem_map.mp hd1
    obtain ⟨b', hb', rfl⟩ := List.mem_map.mp hd2
    exact alike_tupD _ _
  have em := PySem.W.each_map (R := fun v d => ∃ as, Reads (PySem.W.sortingHeap (h'.push (seqObj "list" its.toArray 0)) h'.objs.size its) v d as) (fun b : V × PyData => b.2) er
  have S : PySem.W.SortsAt X.prog X.w X.A.in1.in1 { s with heap := PySem.W.sortingHeap (h'.push (seqObj "list" its.toArray 0)) h'.objs.size its, toks := tk } (dataKind (PySem.W.sortingHeap (h'.push (seqObj "list" its.toArray 0)) h'.objs.size its) ((zs.map fun y => (V.ref y.1, tupD y.2)).map (·.2))) its := by
    refine sorts_lots em (fun d hd1 => ?_) (by show X.A.units + 1 + 1 + 5 < cLine; omega)
    rw [List.map_map] at hd1
    obtain ⟨b, hb, rfl⟩ := List.mem_map.mp hd1
    exact ⟨b.2, rfl⟩
  have hlen : its.length ≤ sizeLine := by rw [← hits, List.length_map]; omega
  have eo := PySem.W.sortVals_data (h' := PySem.W.sortingHeap (h'.push (seqObj "list" its.toArray 0)) h'.objs.size its) (enc := fun b : V × PyData => b.2) false e0 er hal
  refine wpAny_bind (wpAny_holding (wpAny_call_entry PyProof.Rows.slot_list_sort ⟨_, hoL, rfl⟩ PyProof.Rows.entry_list_sort
    (PySem.W.list_sort_vals (s := { s with heap := h'.push (seqObj "list" its.toArray 0), toks := tk }) hoL S hlen ⟨_, rfl, ?_⟩) (PyProof.Rows.args_list_sort _)))
  generalize PySem.W.sortVals (dataKind (PySem.W.sortingHeap (h'.push (seqObj "list" its.toArray 0)) h'.objs.size its) ((zs.map fun y => (V.ref y.1, tupD y.2)).map (·.2))) false its its = out at eo
  obtain ⟨e', he'⟩ := PyProof.Rows.sortedHeap_at (vs := its) (out := out.toArray) hoL
  have pm : ((zs.map fun y => (V.ref y.1, tupD y.2)).mergeSort (dataLe false (·.2))).Perm (zs.map fun y => (V.ref y.1, tupD y.2)) := List.mergeSort_perm _ _
  have pw := dataLe_pw (zs.map fun y => (V.ref y.1, tupD y.2))
  generalize (zs.map fun y => (V.ref y.1, tupD y.2)).mergeSort (dataLe false (·.2)) = bs' at eo pm pw
  obtain ⟨zs', pz, rfl⟩ := perm_mapC pm
  have rv : Vals (zs'.map fun z => V.ref z.1) out := by
    have := vals_of_each eo
    rw [List.map_map] at this
    exact this
  have hlen2 : (zs'.map fun z => V.ref z.1).length ≤ sizeLine := by
    rw [List.length_map, pz.length_eq]
    omega
  refine wpAny_pure ⟨_, rfl, .ref h'.objs.size, upd H h'.objs.size (.lst (zs'.map fun z => V.ref z.1)), I1.laid (t' := tk) (fun b u e => ?_) (Nat.le_refl _)
    (show ObjOk X.prog X.w _ _ _ (.lst (zs'.map fun z => V.ref z.1)) from ⟨hlen2, out, e', rv, he'⟩), rfl, q zs' _ (fun z hz => hz3 z (pz.mem_iff.mp hz)) (by rw [← hz2]; exact pz.map _) ?_ (I1.hok.fresh (Nat.le_refl _))⟩
  · have hb : b < h'.objs.size := Heap.lt_size e
    rw [PyProof.Rows.sortedHeap_old (Nat.ne_of_lt hb) (by rw [size_push']; exact Nat.lt_succ_of_lt hb)]
    exact Heap.get?_push_of_some _ e
  · rw [List.pairwise_map] at pw
    refine pw.imp fun {x y} h => ?_
    have h : PySem.W.dataLt (tupD y.2) (tupD x.2) = false := h
    rw [lt_tupD] at h
    exact h
end TW
namespace TW
open PySem PySem.Spec PyProof.Rows L2
/-! {t: v} -/
def tDisp1T (tk tv : TE) : TE := fun σ H Q => ∀ p, H p = none → tk σ (upd H p (.dT [])) fun x H1 => tv σ H1 fun y H2 => H2 p = some (.dT []) ∧ ∃ (b : Addr) (ks : List Key), x = .ref b ∧ H2 b = some (.tup (ks.map kV)) ∧ Q (.ref p) (upd H2 p (.dT [(ks, y)]))
theorem pe_disp1T {X : Cx} {pos : Pos} {k v : Expr} {tk tv : TE} (hu : X.A.units + 1 < cLine) (hk : PE X k tk) (hv : PE X v tv) : PE X (.Dict [some k] [v] pos) (tDisp1T tk tv) := by
  refine ⟨fun pins s σ H Q I q => ?_⟩
  have hn := I.hok.fresh (Nat.le_refl s.heap.objs.size)
  have I1 := I.laid (a := s.heap.objs.size) (o := .dT []) (h' := s.heap.push { cls := .type "dict", data := .dict #[] }) (t' := s.toks) (fun _ _ q => Heap.get?_push_of_some _ q) (Nat.le_refl _) (dt_empty s.heap I.big)
  rw [arm_eval_Dict, zip_pairTrees [some k] [v] X.env pos rfl rfl, dictDisplay_pairs (pairTrees [some k] [v] X.env pos) (fun e => by cases e) (by show 1 < 17; decide)]
  refine wpAny_bind (wpAny_standAt (wpAny_bind ?_))
  unfold subDict
  refine wpAny_bind (wpAny_alloc ?_)
  refine wpAny_bind (wpAny_holding ?_)
  rw [if_pos (by show 1 ≤ 15; decide)]
  refine wpAny_bind (pairTrees_cons_walk (thn (hk.run pins _ σ _ _ I1 (q _ hn)) fun u s1 ⟨x, H1, I2, rx, q1⟩ => thn (hv.run pins s1 σ H1 _ I2 q1) fun w2 s2 ⟨y, H2, I3, ry, e, b, ks, ex, hb, q2⟩ => pairTrees_nil_walk ?_))
  subst ex
  cases (show u = Value.ref b from rx)
  refine wpAny_holding ?_
  rw [List.forIn_cons]
  obtain ⟨z, hd, xs, rel, dd⟩ := dt_of I3.hok e
  have hz : xs.length ≤ sizeLine := by rw [← Paired.length rel]; exact z
  have hl : (putK ([] : List (List Key × V)) ks y).length ≤ sizeLine := by show 1 ≤ sizeLine; decide
  refine wpAny_bind ?_
  refine wpAny_bind ?_
  show wpAny _ _ (dictSet s.heap.objs.size (.ref b) w2 >>= fun _ => pure (ForInStep.yield PUnit.unit)) _ _ _
  refine wpAny_bind (wpAny_dictSet_heap (hsz := hz) (by show X.A.units < cLine; omega) (key_of I3.hok hb) dd fun h' dd' hs => wpAny_pure ?_)
  show wpAny _ _ (forIn ([] : List (Value × Value)) PUnit.unit _) _ _ _
  rw [List.forIn_nil]
  refine wpAny_pure (wpAny_pure (wpAny_pure (wpAny_pure ?_)))
  obtain ⟨o, es, ep, ho, h2, h3, h4, _, h5⟩ := dd'
  refine ⟨.ref s.heap.objs.size, _, d_write I3 (by rw [e]; exact True.intro) hs ⟨o, ho⟩ (show ObjOk X.prog X.w (upd H2 s.heap.objs.size (.dT [(ks, y)])) h' s.heap.objs.size (.dT [(ks, y)]) from ⟨hl, hd, _, (rel.put ks hb ry).keeps fun c ys ec => ?_, o, es, ep, ho, h2, h3, h4, h5⟩), rfl, q2⟩
  rw [upd_ne (ne_of ec e (fun z => nomatch z))]
  exact ec
end TW
set_option Elab.async false
set_option linter.all false
set_option maxRecDepth 100000
set_option maxHeartbeats 4000000
/-! set(t), t a tuple of ints, some of them more than once -/
namespace TW
open PySem PySem.Spec PyProof.Rows L2
section
variable {P : Program} {w : World} {A : Around} {E : Value → Shared → Prop} {s : Shared}
theorem set_of_tupI {l : Addr} {its : Array Value} (ns : List Int) {Q : Value → Shared → Prop} (noh : A.handled = none) (il : s.heap.IsTuple l its) (ii : IntsAre its.toList ns) (few : ns.length + 1 < scanBound)
    (go : ∀ (g : Heap) (tk c : Nat), SetR w g s.heap.objs.size (fun j => decide (j ∈ ns)) c → c ≤ ns.length → (∀ b o, s.heap.get? b = some o → g.get? b = some o) → Q (.ref s.heap.objs.size) { s with heap := g, toks := tk }) :
    wpAny (model P w) A (call (.type "set") [.ref l]) Q E s := by
  have size_eq : its.size = ns.length := by simpa using ii.length
  have C := F.called_set
  obtain ⟨c, tl, mro⟩ := C.mro
  have made_ := C.made
  have sub_ := C.sub
  have nt := C.notType
  have cc := C.canCreate
  have tc1 := F.typeCall_set_1 (.ref l)
  refine wpAny_call (codeAny_of_tree ?_)
  change wpAny _ _ (callAny (Value.type "set") ⟨[.ref l], []⟩) _ _ _
  refine wpAny_pure ⟨Code.quiet_builtin _ (by decide +kernel), codeAny_builtin F.entry_type_call ?_⟩
  rw [Around.under_plain (weight_type_call_type "set" _ _) rfl]
  repeat (any_goals (first | assumption | wp_step))
  refine codeAny_mono (code_set_led1 (.ref l) (E := E) (Q₁ := fun ob t => ob = .ref s.heap.objs.size ∧ t = { s with heap := s.heap.push (fresh0 w) }) ⟨rfl, rfl⟩) fun r t hr => ?_
  match r, hr with
  | .error e, hr => exact hr
  | .ok (.ret ob), hr =>
    obtain ⟨rfl, rfl⟩ := hr
    have at0 : (s.heap.push (fresh0 w)).get? s.heap.objs.size = some (fresh0 w) := Heap.get?_push_size _ rfl
    have ty0 : Shared.TypeIs { s with heap := s.heap.push (fresh0 w) } (.ref s.heap.objs.size) "set" := ⟨_, at0, rfl⟩
    have look_ := C.init.lookup
    have bind_ := C.init.bind (.ref s.heap.objs.size)
    repeat (any_goals (first | assumption | wp_step))
    refine codeAny_mono (codeAny_call_builtin (R := wants (fun r t => r = .none ∧ ∃ g tk c, t = { s with heap := g, toks := tk } ∧ SetR w g s.heap.objs.size (fun j => decide (j ∈ ns)) c ∧ c ≤ ns.length ∧ (∀ b o, s.heap.get? b = some o → g.get? b = some o)) E) C.init.plain F.entry_set_init (check_set_init_1 ty0 ?_)) fun r2 t2 hr2 => ?_
    · obtain ⟨⟨lc, ld, ldat, lsl⟩, lat, e1, nl, e2⟩ := il
      simp only at e1 e2
      subst e1
      subst e2
      have lat1 : (s.heap.push (fresh0 w)).get? l = some { cls := .type "tuple", dict := ld, data := .seq its nl, slots := lsl } := Heap.get?_push_of_some _ lat
      have k1 := F.sub_tuple_set
      have k2 := F.sub_tuple_frozenset
      have k3 : (Value.type "tuple" == Value.type "dict") = false := by decide
      have il1 : (s.heap.push (fresh0 w)).IsTuple l its := ⟨_, lat1, rfl, nl, rfl⟩
      unfold Builtin.«set.__init__» noKeywords Builtin.Frozenset.updateFrom
      generalize ePI : pyIter = PI
      wp_walk
      subst ePI
      refine wpAny_pyIter_tuple il1 (wpAny_bind (wpAny_runValue ?_))
      have ll := Heap.lt_size lat
      have sz1 : (s.heap.push (fresh0 w)).objs.size = s.heap.objs.size + 1 := Heap.size_push ..
      have noh3 : A.in1.in1.in1.handled = none := by simp [noh]
      have nI : l ≠ (s.heap.push (fresh0 w)).objs.size := sz1 ▸ Nat.ne_of_lt (Nat.lt_succ_of_lt ll)
      have nS : s.heap.objs.size ∉ [(s.heap.push (fresh0 w)).objs.size, l] := by
        simp only [List.mem_cons, List.not_mem_nil, or_false, not_or]
        exact ⟨sz1 ▸ Nat.ne_of_lt (Nat.lt_succ_self _), Nat.ne_of_gt ll⟩
      have vals_ : ∀ (i : Nat) (v : Value), its[i]? = some v → ∃ k t, ns[i]? = some k ∧ v = .int k t := fun i v hv => by
        have hi : i < ns.length := size_eq ▸ (Array.getElem?_eq_some_iff.mp hv).1
        obtain ⟨t, e⟩ := PyProof.Rows.IntsAre.int_at ii i v (by simpa using hv)
        refine ⟨ns[i], t, List.getElem?_eq_getElem hi, ?_⟩
        rw [e]
        simp [List.getD_eq_getElem?_getD, hi]
      refine set_update_ints ((Walks.tuple noh3 _ l nI its).toS) s.heap.objs.size nS ns size_eq few vals_ (its.size - 0) 0 _ (by omega) (Nat.zero_le _) ⟨⟨_, Heap.get?_push_size _ rfl, rfl, rfl⟩, il1.push _⟩ ⟨0, Nat.le_refl 0, setR_new_at (Heap.get?_push_of_some _ at0)⟩ ?_
      rintro ⟨g, g2, d2, tk, os2⟩ c2 mv c2l R2
      have z1 : g2 = s.gens := mv.gens
      have z2 : d2 = s.drawn := mv.drawn
      have z3 : os2 = s.os := mv.os
      subst z1 z2 z3
      show wpAny _ _ _ _ _ _
      refine wpAny_pure ?_
      show wpAny _ _ (ret Value.none) _ _ _
      refine wpAny_pure ⟨rfl, g, tk, c2, rfl, R2, by omega, fun b o e => ?_⟩
      have bl := Heap.lt_size e
      refine mv.heap b o ?_ (Heap.get?_push_of_some _ (Heap.get?_push_of_some _ e))
      simp only [List.mem_cons, List.not_mem_nil, or_false, not_or]
      exact ⟨Nat.ne_of_lt bl, sz1 ▸ Nat.ne_of_lt (Nat.lt_succ_of_lt bl)⟩
    · match r2, hr2 with
      | .error e, hr2 => exact hr2
      | .ok (.ret r3), hr2 =>
        obtain ⟨rfl, g, tk, c2, rfl, R2, c2l, kp⟩ := hr2
        repeat (any_goals (first | assumption | wp_step))
        exact go _ _ _ R2 c2l kp
      | .ok .next, hr2 => exact hr2.elim
      | .ok .brk, hr2 => exact hr2.elim
      | .ok .cont, hr2 => exact hr2.elim
  | .ok .next, hr => exact hr.elim
  | .ok .brk, hr => exact hr.elim
  | .ok .cont, hr => exact hr.elim
end
section
variable {X : Cx}
def rSetTI (K : PySem.W.Frag) (w : World) : List V → Hp → VK → Prop := fun xs H Q => ∃ (l : Addr) (ns : List Int), xs = [V.ref l] ∧ SqT K H l (ns.map V.int) ∧ ns.length ≤ 4000 ∧
  ∀ a c, H a = none → c ≤ ns.length → Q (.ref a) (upd H a (SetO w a (fun j => decide (j ∈ ns)) c))
theorem cr_setTI (hc : X.calm = true) : CallR X (.type "set") (rSetTI X.K X.w) := by
  intro pins s σ H xs us Q I r h
  obtain ⟨l, ns, rfl, hl, hf, q⟩ := h
  rw [Vals.ref1 r]
  obtain ⟨its, rv, pl, hz⟩ := I.tuple hl
  have hn : H s.heap.objs.size = none := I.hok.fresh (Nat.le_refl _)
  refine set_of_tupI (P := X.prog) (w := X.w) ns (I.ok.hd hc) pl (by simpa using RZ.intsAre_vals rv) (by unfold scanBound; omega) fun g tk c R hcl k => ?_
  exact ⟨.ref s.heap.objs.size, upd H s.heap.objs.size (SetO X.w s.heap.objs.size (fun j => decide (j ∈ ns)) c), I.laid (t' := tk) k (Nat.le_refl _) (setO_new R), rfl, q _ c hn hcl⟩
theorem cr_setTK {w : World} {K : PySem.W.Frag} (hc : X.calm = true) (h : X.K = K := by rfl) (hw : X.w = w := by rfl) : CallR X (.type "set") (rSetTI K w) := by
  subst h hw
  exact cr_setTI hc
end
end TW
set_option Elab.async false
set_option linter.all false
set_option maxRecDepth 100000
set_option maxHeartbeats 1000000
/-! dicts as cells -/
namespace TD
open PySem PySem.Spec PyProof.Rows L2 TW
/-- values without parts -/
def sclV : Dt → Option V
  | .non => some .non
  | .bl b => some (.bl b)
  | .int i => some (.int i)
  | .str x => some (.str x)
  | _ => none
theorem scl_is {G : Hp} {v w : V} {t : Dt} (h : sclV t = some w) (k : Is G v t) : v = w := by
  cases t <;> cases h <;> cases k <;> rfl
theorem scl_mk {G : Hp} {w : V} {t : Dt} (h : sclV t = some w) : Is G w t := by
  cases t <;> cases h
  · exact .non
  · exact .bl _
  · exact .int _
  · exact .str _
section
variable {G H : Hp} {fr : List (Addr × HO)} {ps : List Addr} {ce : List Cl} {q p : Addr} {o o' : HO} {k : Nat}
theorem any_at (R : Rl G fr ps ce H) {v : V} (hr : RfOk G ps v (.c k)) (h : ce[k]? = some (.any o)) : ∃ p, v = .ref p ∧ ps[k]? = some p ∧ H p = some o := by
  obtain ⟨p, e, hp⟩ := hr
  exact ⟨p, e, hp, (R.ce k p _ hp h).2⟩
/-- a thing of the frame becomes a cell -/
theorem Rl.popA (R : Rl G ((q, o) :: fr) ps ce H) (ho : ∀ ts, o ≠ .tup ts) : Up G ps G (ps ++ [q]) ∧ Rl G fr (ps ++ [q]) (ce ++ [.any o]) H ∧ (ps ++ [q])[ce.length]? = some q := by
  obtain ⟨nG', hq⟩ := R.fo _ List.mem_cons_self
  have np : q ∉ ps := R.sp _ List.mem_cons_self
  have nf := R.nf
  rw [List.map_cons, List.nodup_cons] at nf
  refine ⟨⟨Ex.rfl', List.prefix_append _ _⟩, ⟨R.ex, by rw [List.length_append, List.length_append, R.ln]; rfl, ?_, fun k p c h1 h2 => ?_, fun f hf => R.fo f (List.mem_cons_of_mem _ hf), nf.2, fun f hf hm => ?_⟩, by rw [← R.ln]; exact get_last _ _⟩
  · exact List.nodup_append.mpr ⟨R.nd, List.nodup_cons.mpr ⟨List.not_mem_nil, List.nodup_nil⟩, fun a ha b hb e => by
      rw [List.mem_singleton] at hb
      subst hb
      subst e
      exact np ha⟩
  · rcases get_snoc h1 with h1 | ⟨k1, rfl⟩
    · rcases get_snoc h2 with h2 | ⟨k2, rfl⟩
      · exact R.ce k p c h1 h2
      · have := (List.getElem?_eq_some_iff.mp h1).1
        rw [R.ln] at this
        omega
    · rcases get_snoc h2 with h2 | ⟨k2, rfl⟩
      · have := (List.getElem?_eq_some_iff.mp h2).1
        rw [← R.ln] at this
        omega
      · exact ⟨nG', hq⟩
  · rcases List.mem_append.mp hm with h | h
    · exact R.sp f (List.mem_cons_of_mem _ hf) h
    · rw [List.mem_singleton] at h
      exact nf.1 (List.mem_map.mpr ⟨f, hf, h⟩)
/-- a cell that is no list changes -/
theorem Rl.putA (R : Rl G fr ps ce H) (hk : ps[k]? = some p) (hc : ce[k]? = some (.any o)) (ho : ∀ ts, o ≠ .tup ts) : Rl G fr ps (ce.set k (.any o')) (upd H p o') := by
  have nG : G p = none := (R.ce k p _ hk hc).1.elim id fun ⟨ts, e⟩ => absurd e (ho ts)
  refine ⟨fun a u h => by rw [upd_ne (ne_of_none h nG)]; exact R.ex a u h, by rw [List.length_set, R.ln], R.nd, fun j q c h1 h2 => ?_, fun f hf => ⟨(R.fo f hf).1, by rw [upd_ne (show f.1 ≠ p from fun e => R.sp f hf (by rw [e]; exact List.mem_of_getElem? hk))]; exact (R.fo f hf).2⟩, R.nf, R.sp⟩
  rw [List.getElem?_set] at h2
  split at h2
  · rename_i e
    subst e
    split at h2
    · cases h2
      rw [hk] at h1
      cases h1
      exact ⟨.inl nG, upd_same⟩
    · cases h2
  · rename_i e
    have h := R.ce j q c h1 h2
    have qp : q ≠ p := fun z => e (by subst z; exact nodup_at R.nd hk h1)
    cases c with
    | own ds =>
      obtain ⟨a, xs, b, c⟩ := h
      exact ⟨a, xs, by rw [upd_ne qp]; exact b, c⟩
    | frz ds => exact h
    | any o => exact ⟨h.1, by rw [upd_ne qp]; exact h.2⟩
/-- tuples of ints that stand are taken into the ground -/
theorem Rl.takeTs : ∀ {zs : List (Addr × List Int)} {G : Hp}, Rl G fr ps ce H → (∀ z ∈ zs, H z.1 = some (.tup (z.2.map V.int))) → ∃ G', Ex G G' ∧ Rl G' fr ps ce H ∧ Iss G' (zs.map fun z => V.ref z.1) (zs.map fun z => Dt.tup (z.2.map .int))
  | [], G, R, _ => ⟨G, Ex.rfl', R, .nil⟩
  | z :: zs, G, R, h => by
    obtain ⟨G1, e1, h1, R1⟩ := R.takeT (h z List.mem_cons_self)
    obtain ⟨G2, e2, R2, hs⟩ := Rl.takeTs (zs := zs) R1 fun y hy => h y (List.mem_cons_of_mem _ hy)
    exact ⟨G2, e1.trans e2, R2, .cons ((iss_ints G2 z.2).mkT (e2 _ _ h1)) hs⟩
end
def intsT (ks : List Int) : Dt := .tup (ks.map .int)
theorem is_ints {G : Hp} {v : V} {ks : List Int} (h : Is G v (intsT ks)) : ∃ b, v = .ref b ∧ G b = some (.tup (ks.map V.int)) := by
  obtain ⟨a, xs, rfl, h1, h2⟩ := Is.inT (show Is G v (.tup (ks.map .int)) from h)
  exact ⟨a, rfl, by rw [← h2.ints]; exact h1⟩
theorem kv_ints (ks : List Int) : (ks.map (Sum.inl : Int → Key)).map kV = ks.map V.int := by
  rw [List.map_map]
  rfl
section
variable {ι : Type} {F : ι → Cx} {K : PySem.W.Frag} {e ke ve i : Expr} {da dk dv : XE} {pos : Pos}
/-- {t: v} -/
def disD (dk dv : XE) : XE := fun s Q => dk s fun r ce => dv ⟨s.sl, ce⟩ fun r2 ce2 => ∃ (ks : List Int) (t : Dt) (w : V), r = .d (intsT ks) ∧ r2 = .d t ∧ sclV t = some w ∧ Q (.c ce2.length) (ce2 ++ [.any (.dT [(ks.map .inl, w)])])
theorem de_disp (hu : ∀ j, (F j).A.units + 64 < cLine) (hk : DE F ke dk) (hv : DE F ve dv) : DE F (.Dict [some ke] [ve] pos) (disD dk dv) := by
  obtain ⟨tk, pk, sk⟩ := hk
  obtain ⟨tv, pv, sv⟩ := hv
  refine ⟨tDisp1T tk tv, fun j => pe_disp1T (by have := hu j; omega) (pk j) (pv j), fun G fr ps s σ H Q Qd R L h f => ?_⟩
  intro p np
  have R0 := R.pushF (o := .dT []) np
  refine sk G ((p, .dT []) :: fr) ps s σ _ _ _ R0 L h fun r ce1 G1 ps1 H1 v q1 u1 R1 v1 => ?_
  refine sv G1 ((p, .dT []) :: fr) ps1 ⟨s.sl, ce1⟩ σ H1 _ _ R1 (L.up u1) q1 fun r2 ce2 G2 ps2 H2 y q2 u2 R2 v2 => ?_
  obtain ⟨ks, t, w, rfl, rfl, hw, q⟩ := q2
  obtain ⟨b, rfl, hb⟩ := is_ints (v1.up u2)
  obtain rfl := scl_is hw v2
  refine ⟨(R2.fo _ List.mem_cons_self).2, b, ks.map .inl, rfl, by rw [kv_ints]; exact R2.ex _ _ hb, ?_⟩
  obtain ⟨u3, R3, h3⟩ := (R2.setF (o' := .dT [(ks.map .inl, y)]) fun _ e => nomatch e).popA fun _ e => nomatch e
  exact f _ _ G2 _ _ _ q ((u1.trans u2).trans u3) R3 ⟨p, rfl, h3⟩
/-- d[t] = v -/
def dputS (dv dd dk : XE) : XS := fun E s => dv s fun r ce1 => dd ⟨s.sl, ce1⟩ fun d ce2 => dk ⟨s.sl, ce2⟩ fun k ce3 => ∃ (j : Nat) (kvs : List (List Key × V)) (ks : List Int) (t : Dt) (w : V), r = .d t ∧ sclV t = some w ∧ d = .c j ∧ ce3[j]? = some (.any (.dT kvs)) ∧ k = .d (intsT ks) ∧ kvs.length < 100000 ∧
  E.nx ⟨s.sl, ce3.set j (.any (.dT (putK kvs (ks.map .inl) w)))⟩
theorem ds_dput {pos' : Pos} {value o : Expr} {dd : XE} (hu : ∀ j, (F j).A.units + 64 < cLine) (ho : DE F o dd) (hi : DE F i dk) (hv : DE F value dv) (hs : ∀ j, swapsWith value (some (.Subscript o i pos')) pos.line (F j).env = pure false := by intro _; rfl) : DS F (.Assign [.Subscript o i pos'] value pos) (dputS dv dd dk) := by
  obtain ⟨to, po, so⟩ := ho
  obtain ⟨ti, pi, si⟩ := hi
  obtain ⟨tv, pv, sv⟩ := hv
  refine ⟨sDPut to ti tv, fun j => ps_dput (by have := hu j; omega) (po j) (pi j) (pv j) (hs j), fun G fr ps0 ps s σ H E D hp R L h k => ?_⟩
  refine sv G fr ps s σ H _ _ R L h fun r ce1 G1 ps1 H1 v q1 u1 R1 v1 => ?_
  refine so G1 fr ps1 ⟨s.sl, ce1⟩ σ H1 _ _ R1 (L.up u1) q1 fun d ce2 G2 ps2 H2 x q2 u2 R2 x2 => ?_
  refine si G2 fr ps2 ⟨s.sl, ce2⟩ σ H2 _ _ R2 (L.up (u1.trans u2)) q2 fun y ce3 G3 ps3 H3 z q3 u3 R3 z3 => ?_
  obtain ⟨j, kvs, ks, t, w, rfl, hw, rfl, hc, rfl, hl, q⟩ := q3
  obtain rfl := scl_is hw (v1.up (u2.trans u3))
  obtain ⟨p, rfl, hp3, hd⟩ := any_at R3 (x2.up u3) hc
  obtain ⟨b, rfl, hb⟩ := is_ints z3
  refine ⟨p, _, rfl, DPut.t hd (k := ks.map .inl) (by rw [kv_ints]; exact R3.ex _ _ hb) (Nat.lt_of_lt_of_le hl (by rw [sizeLine_eq]; omega)), ?_⟩
  have u := (u1.trans u2).trans u3
  exact k.nx _ G3 ps3 σ _ q u.ex (hp.trans u.pre) (R3.putA hp3 hc fun _ e => nomatch e) (L.up u)
/-- tuple(d), list(d), sorted(d) -/
def tupDK : XC := one fun a ce Q => ∃ (k : Nat) (kvs : List (Key × V)) (ks : List Int), a = .c k ∧ ce[k]? = some (.any (.dK kvs)) ∧ kvs.map (·.1) = ks.map .inl ∧ Q (.d (intsT ks)) ce
theorem dc_tupDK (hc : ∀ i, (F i).calm = true := by intro _; rfl) : DC F (.type "tuple") tupDK := ⟨_, fun i => call_tuple_dK (hc i), sc_one fun G fr ps ce H x a Q Qd R ra q f => by
  obtain ⟨k, kvs, ks, rfl, hk, e, q⟩ := q
  obtain ⟨p, rfl, _, hd⟩ := any_at R ra hk
  refine ⟨p, kvs, rfl, hd, ?_⟩
  have e2 : (kvs.map fun kv => kV kv.1) = ks.map V.int := by
    have := congrArg (List.map kV) e
    rw [List.map_map, List.map_map] at this
    exact this
  rw [e2]
  exact fin_tup f R (iss_ints G ks) q⟩
def lisDT : XC := one fun a ce Q => ∃ (k : Nat) (kvs : List (List Key × V)) (ks : List (List Int)), a = .c k ∧ ce[k]? = some (.any (.dT kvs)) ∧ kvs.map (·.1) = ks.map (·.map .inl) ∧ Q (.c ce.length) (ce ++ [.own (ks.map intsT)])
theorem dc_listDT (hc : ∀ i, (F i).calm = true := by intro _; rfl) : DC F (.type "list") lisDT := ⟨_, fun i => call_list_dT (hc i), sc_one fun G fr ps ce H x a Q Qd R ra q f => by
  obtain ⟨k, kvs, ks, rfl, hk, e, q⟩ := q
  obtain ⟨p, rfl, _, hd⟩ := any_at R ra hk
  refine ⟨p, kvs, rfl, .inl hd, fun l bs nl hb => ?_⟩
  obtain ⟨zs, h1, h2, h3⟩ := keys_at hb e
  obtain ⟨G', e', R', hs⟩ := R.takeTs h3
  rw [show (bs.map V.ref) = zs.map fun z => V.ref z.1 by rw [← h1, List.map_map]; rfl]
  rw [show (ks.map intsT) = zs.map fun z => Dt.tup (z.2.map .int) by rw [← h2, List.map_map]; rfl] at q
  exact fin_lst (f.up ⟨e', List.prefix_rfl⟩) R' hs q l nl⟩
def sortDT : XC := one fun a ce Q => ∃ (k : Nat) (kvs : List (List Key × V)) (ks : List (List Int)), a = .c k ∧ ce[k]? = some (.any (.dT kvs)) ∧ kvs.map (·.1) = ks.map (·.map .inl) ∧ ∀ ks' : List (List Int), ks'.Perm ks → ks'.Pairwise (fun x y => HT.lexLt y x = false) → Q (.c ce.length) (ce ++ [.own (ks'.map intsT)])
theorem dc_sortDT (hu : ∀ i, (F i).A.units + 64 < cLine) (hc : ∀ i, (F i).calm = true := by intro _; rfl) : DC F (.builtin "sorted") sortDT := ⟨_, fun i => cr_sortedDT (hc i) (hu i), sc_one fun G fr ps ce H x a Q Qd R ra q f => by
  obtain ⟨k, kvs, ks, rfl, hk, e, q⟩ := q
  obtain ⟨p, rfl, _, hd⟩ := any_at R ra hk
  refine ⟨p, kvs, ks, rfl, hd, e, fun zs l h3 pm pw nl => ?_⟩
  obtain ⟨G', e', R', hs⟩ := R.takeTs h3
  have q := q (zs.map (·.2)) pm (by rw [List.pairwise_map]; exact pw)
  rw [List.map_map] at q
  exact fin_lst (f.up ⟨e', List.prefix_rfl⟩) R' hs q l nl⟩
/-- k in d, d with int keys -/
def inDK (neg : Bool) (dk dd : XE) : XE := fun s Q => dk s fun r ce1 => dd ⟨s.sl, ce1⟩ fun d ce2 => ∃ (j : Nat) (kvs : List (Key × V)) (i : Int), r = .d (.int i) ∧ d = .c j ∧ ce2[j]? = some (.any (.dK kvs)) ∧ Q (.d (.bl (ngt neg (valV kvs (.inl i)).isSome))) ce2
theorem se_inDK {tk td : TE} {dd : XE} (sk : SE tk dk) (sd : SE td dd) : SE (tDIn tk td) (inDK false dk dd) := fun G fr ps s σ H Q Qd R L h f => by
  refine sk G fr ps s σ H _ _ R L h fun r ce1 G1 ps1 H1 v q1 u1 R1 v1 => ?_
  refine sd G1 fr ps1 ⟨s.sl, ce1⟩ σ H1 _ _ R1 (L.up u1) q1 fun d ce2 G2 ps2 H2 x q2 u2 R2 x2 => ?_
  obtain ⟨j, kvs, i, rfl, rfl, hc, q⟩ := q2
  obtain ⟨p, rfl, _, hd⟩ := any_at R2 x2 hc
  have v2 : Is G2 v (.int i) := v1.up u2
  cases v2
  exact ⟨p, _, rfl, DGet.k (k := .inl i) hd, fin_d (f.up (u1.trans u2)) R2 (.bl _) q⟩
theorem de_inDK {o : Expr} {dd : XE} (hu : ∀ j, (F j).A.units + 64 < cLine) (hi : DE F i dk) (ho : DE F o dd) (hm : behindInMarks .In o = false := by rfl) : DE F (.Compare i [.In] [o] pos) (inDK false dk dd) := by
  obtain ⟨ti, pi, si⟩ := hi
  obtain ⟨to, po, so⟩ := ho
  exact ⟨_, fun j => pe_cmp (pc_din (by have := hu j; omega) (pi j) (po j)) hm, se_inDK si so⟩
theorem dt_inDK {o : Expr} {dd : XE} (hu : ∀ j, (F j).A.units + 64 < cLine) (hi : DE F i dk) (ho : DE F o dd) (hm : behindInMarks .In o = false := by rfl) : DT F (.Compare i [.In] [o] pos) (tstD (inDK false dk dd)) := by
  obtain ⟨ti, pi, si⟩ := hi
  obtain ⟨to, po, so⟩ := ho
  exact ⟨_, fun j => pt_cmp (pc_din (by have := hu j; omega) (pi j) (po j)) hm, fun G fr ps s σ H Q Qd R L h f => se_inDK si so G fr ps s σ H _ _ R L h (fin_bl f)⟩
/-- sorted(set(t)), t a tuple of ints -/
def srtSetD (e : XE) : XE := fun s Q => e s fun r ce => ∃ ns : List Int, r = .d (intsT ns) ∧ ns.length ≤ 4000 ∧ ∀ ns' : List Int, ns'.Pairwise (· < ·) → (∀ k, k ∈ ns' ↔ k ∈ ns) → Q (.c ce.length) (ce ++ [.own (ns'.map .int)])
theorem de_sortSet {w : World} {p1 p2 pos1 : Pos} (hc : ∀ j, (F j).calm = true) (hg : ∀ j, Gl (F j) "sorted") (hm : ∀ j, (F j).mg "sorted" = none) (hg2 : ∀ j, Gl (F j) "set") (hm2 : ∀ j, (F j).mg "set" = none) (he : DE F e da) (hK : ∀ j, (F j).K = K := by intro _; rfl) (hw : ∀ j, (F j).w = w := by intro _; rfl)
    (hs : ∀ j, starEach [e] (F j).env = (false, eval e (F j).env) :: starEach [] (F j).env := by intro _; rfl) (hs2 : ∀ j, starEach [.Call (.Name "set" p2) [e] [] pos1] (F j).env = (false, eval (.Call (.Name "set" p2) [e] [] pos1) (F j).env) :: starEach [] (F j).env := by intro _; rfl) (hb : bootBuiltins "sorted" = some (.builtin "sorted") := by decide +kernel) (hb2 : bootBuiltins "set" = some (.type "set") := by decide +kernel) :
    DE F (.Call (.Name "sorted" p1) [.Call (.Name "set" p2) [e] [] pos1] [] pos) (srtSetD da) := by
  obtain ⟨t, p, sa⟩ := he
  refine ⟨_, fun j => pe_callB (cr_sortedSetN (w := w) (hc j) (hw j)) (hg j) (hm j) hb (pa_cons (pe_callTy (cr_setTK (w := w) (K := K) (hc j) (hK j) (hw j)) (hg2 j) (hm2 j) hb2 (pa_cons (p j) pa_nil (hs j)) (by decide) (by decide) (hs j) (by rfl)) pa_nil (hs2 j)) (by decide) (by decide) (hs2 j) (by rfl), fun G fr ps s σ H Q Qd R L h f => ?_⟩
  refine sa G fr ps s σ H _ _ R L h fun r ce1 G1 ps1 H1 v q u R1 k => ?_
  obtain ⟨ns, rfl, hl, q⟩ := q
  obtain ⟨b, rfl, hb⟩ := is_ints (show Is G1 v (intsT ns) from k)
  refine ⟨b, ns, rfl, Evl.st_of (R1.ex _ _ hb), hl, fun a c na hcl => ?_⟩
  refine ⟨a, _, c, rfl, upd_same, by omega, fun ns' p up mem _ np => ?_⟩
  have R2 := R1.go (Evl.Ex.new (o := SetO w a (fun j => decide (j ∈ ns)) c) na)
  exact fin_lst (f.up u) R2 (iss_ints _ _) (q ns' up fun k => by rw [mem k, decide_eq_true_iff]) p np
end
end TD
set_option Elab.async false
set_option linter.all false
set_option maxRecDepth 100000
set_option maxHeartbeats 1000000
/-! jars -/
namespace TD
open PySem PySem.Spec PyProof.Rows L2 TW
theorem hu65 {k : Nat} {A : Around} (hr : Room k A) : A.units + 65 < cLine := by
  have := hr.un
  omega
theorem log_lt {n : Nat} (h : n < 2 ^ 200) : ((n : Int)).natAbs.log2 < 9000 := by
  rw [Int.natAbs_natCast]
  by_cases z : n = 0
  · subst z
    decide
  · exact Nat.lt_of_lt_of_le ((Nat.log2_lt z).mpr h) (by decide)
theorem pow3 {c : Int} (h : c.natAbs < 2 ^ 21) : (c ^ (3 : Int).toNat).natAbs < 2 ^ 64 := by
  show (c ^ 3).natAbs < 2 ^ 64
  rw [Int.natAbs_pow]
  exact Nat.lt_trans (Nat.pow_lt_pow_left h (by decide)) (by decide)
theorem emod_nat {n : Nat} (h : 0 < n) {y : Int} : y % (n : Int) = ((y % (n : Int)).toNat : Nat) := by
  have := Int.emod_nonneg y (show (n : Int) ≠ 0 by omega)
  omega
theorem emod_lt {n : Nat} (h : 0 < n) (y : Int) : (y % (n : Int)).toNat < n := by
  have := Int.emod_lt_of_pos y (show (0 : Int) < n by omega)
  omega
structure JarOk (k : Nat) (js : List Dt) : Prop where
  at_ : ∃ a b c : Nat, js = [.int a, .int b, .int c] ∧ b < 2 ^ 61 ∧ c ≤ k
theorem JarOk.up {j k : Nat} {js : List Dt} (h : JarOk j js) (l : j ≤ k) : JarOk k js := by
  obtain ⟨a, b, c, e, hb, hc⟩ := h.at_
  exact ⟨a, b, c, e, hb, by omega⟩
/-- bits -/
theorem bit1 (m k : Nat) : decide (Builtin.bitAnd ((m : Int) / 2 ^ ((k : Int)).toNat) 1 = 1) = m.testBit k := by
  rw [bitAnd_m1, Int.toNat_natCast, Nat.testBit_eq_decide_div_mod_eq, decide_eq_decide]
  have e : ((m : Int) / 2 ^ k % 2) = ((m / 2 ^ k % 2 : Nat) : Int) := by push_cast; rfl
  rw [e]
  omega
theorem bandN (a b : Nat) : Builtin.bitAnd (a : Int) (b : Int) = ((a &&& b : Nat) : Int) := by
  rw [bitAnd_pp (by omega) (by omega), Int.toNat_natCast, Int.toNat_natCast]
def bitsL (m n : Nat) : List Nat := (List.range n).filter m.testBit
def natT (l : List Nat) : List Dt := l.map fun k : Nat => Dt.int (k : Int)
section
variable {P : Program} {w : World} {K : PySem.W.Frag} {mg : Str → Option Value} {base : Heap}
abbrev N_law_take : List Str := ["jar", "upto", "drawn", "stir"]
theorem sc_law_take : FnScope N_law_take ["jar", "upto"] (defScope s__law_take) := ⟨rfl, rfl, rfl, by decide +kernel, rfl, by decide +kernel, by decide +kernel⟩
def dTake : XF := fun as ce Q => ∃ (k n : Nat) (js : List Dt), as = [.c 0, .d (.int n)] ∧ ce = [.own js] ∧ JarOk k js ∧ k < 10 ^ 6 ∧ 0 < n ∧ n < 2 ^ 200 ∧ ∀ (x : Nat) js', x < n → JarOk (k + 1) js' → Q (.d (.int x)) [.own js']
theorem d_take (D : Dfn K mg "_law_take" s__law_take ["jar", "upto"]) (z : Z mg) : DOk P w K mg base 1 "_law_take" ["jar", "upto"] dTake := by
  refine def_ok D sc_law_take (fun as ce Q h => ?_) (fun f cdv A outer s H E hc hr => (dss_cons (ds_asg (de_op (do_add (K := K)) (de_ix (K := K) (de_var 0) de_int (fun _ _ => rfl)) de_int) (dg_sub (de_var 0) de_int))
      (dss_cons (ds_if (dt_cmp do_gt (de_ix (K := K) (de_var 0) de_int (fun _ _ => rfl)) de_int (nomark _)) (dss_cons (ds_set 2 (fun _ => sc_law_take.nd) (fun _ => rfl) (fun _ => Or.inl rfl) (de_op do_mod (de_callTy dc_int (fun _ => rfl) (fun _ => z.int) (by decide +kernel) (da_cons (de_ix (K := K) (de_var 0) de_int (fun _ _ => rfl)) da_nil)) (de_var 1)))
      (dss_cons (ds_asg (de_op do_div (de_ix (K := K) (de_var 0) de_int (fun _ _ => rfl)) (de_var 1)) (dg_sub (de_var 0) de_int))
      (dss_one (ds_ret (de_var 2))))) dss_nil)
      (dss_cons (ds_set 3 (fun _ => sc_law_take.nd) (fun _ => rfl) (fun _ => Or.inl rfl) (de_op do_mod (de_callTy dc_int (fun _ => rfl) (fun _ => z.int) (by decide +kernel) (da_cons (de_op (do_add (K := K)) (de_op (do_add (K := K)) (de_op do_mul (de_ix (K := K) (de_var 0) de_int (fun _ _ => rfl)) de_int) (de_op do_mul (de_op do_pow (de_ix (K := K) (de_var 0) de_int (fun _ _ => rfl)) de_int) de_int)) de_int) da_nil)) de_int))
      (dss_cons (ds_set 3 (fun _ => sc_law_take.nd) (fun _ => rfl) (fun _ => Or.inl rfl) (de_op do_mod (de_callTy dc_int (fun _ => rfl) (fun _ => z.int) (by decide +kernel) (da_cons (de_op (do_add (K := K)) (de_op do_mul (de_var 3) (de_var 3)) (de_op do_mul de_int (de_ix (K := K) (de_var 0) de_int (fun _ _ => rfl)))) da_nil)) de_int))
      (dss_one (ds_ret (de_op do_mod (de_callTy dc_int (fun _ => rfl) (fun _ => z.int) (by decide +kernel) (da_cons (de_op do_div (de_var 3) de_int) da_nil)) (de_var 1))))))))) (fun as ce Q h => ?_)
  · obtain ⟨k, n, js, rfl, _⟩ := h
    rfl
  · obtain ⟨k, n, js, rfl, rfl, ⟨a, b, c, rfl, hb, hc⟩, hk, n0, hn, q⟩ := h
    refine ⟨_, 2, _, rfl, rfl, rfl, ?_⟩
    refine ⟨0, 2, 2, _, rfl, rfl, rfl, rfl, ?_⟩
    refine ⟨_, 0, _, rfl, rfl, rfl, ?_⟩
    refine ite2 (fun h => ?_) (fun h => ?_)
    · have a0 : 0 < a := by have := of_decide_eq_true h; omega
      refine ⟨_, 0, _, rfl, rfl, rfl, ?_⟩
      refine ⟨by omega, ?_⟩
      refine ⟨_, 0, _, rfl, rfl, rfl, ?_⟩
      refine ⟨⟨by omega, log_lt hn⟩, ?_⟩
      refine ⟨0, 0, 0, _, rfl, rfl, rfl, rfl, ?_⟩
      have e1 : ((a : Int) % (n : Int)) = ((a % n : Nat) : Int) := by omega
      show Q (.d (.int ((a : Int) % (n : Int)))) [.own [.int ((a : Int) / (n : Int)), .int b, .int ((c : Int) + 1)]]
      rw [e1]
      exact q _ _ (Nat.mod_lt _ n0) ⟨a / n, b, c + 1, by push_cast; rfl, hb, by omega⟩
    · refine ⟨_, 1, _, rfl, rfl, rfl, ?_⟩
      refine ⟨wide_mul (a := 61) (b := 20) (by omega) (by decide) (by decide) (by decide) (by decide), ?_⟩
      refine ⟨_, 2, _, rfl, rfl, rfl, ?_⟩
      have c64 : ((c : Int) + 1).natAbs < 2 ^ 21 := by omega
      refine ⟨⟨by decide, by decide, Nat.lt_trans c64 (by decide)⟩, ?_⟩
      refine ⟨wide_mul (a := 64) (b := 20) (pow3 c64) (by decide) (by decide) (by decide) (by decide), ?_⟩
      refine ⟨(by show (0 : Int) < 2305843009213693951; decide), ?_⟩
      have h1 : ∀ y : Int, 0 ≤ y % 2305843009213693951 ∧ y % 2305843009213693951 < 2 ^ 61 := fun y => by omega
      have hs : (((b : Int) * 48271 + ((c : Int) + 1) ^ (3 : Int).toNat * 69621 + 7919) % 2305843009213693951) = (((b : Int) * 48271 + ((c : Int) + 1) ^ (3 : Int).toNat * 69621 + 7919) % 2305843009213693951) := rfl
      obtain ⟨p1, p2⟩ := h1 ((b : Int) * 48271 + ((c : Int) + 1) ^ (3 : Int).toNat * 69621 + 7919)
      refine ⟨wide_mul (a := 61) (b := 61) (by omega) (by omega) (by decide) (by decide) (by decide), ?_⟩
      refine ⟨_, 2, _, rfl, rfl, rfl, ?_⟩
      refine ⟨wide_mul (a := 20) (b := 21) (by decide) c64 (by decide) (by decide) (by decide), ?_⟩
      refine ⟨(by show (0 : Int) < 2305843009213693921; decide), ?_⟩
      refine ⟨⟨by decide, by decide⟩, ?_⟩
      refine ⟨by omega, ?_⟩
      show Q (.d (.int (_ % (n : Int)))) [.own [.int (a : Int), .int b, .int ((c : Int) + 1)]]
      rw [emod_nat n0]
      exact q _ _ (emod_lt n0 _) ⟨a, b, c + 1, by push_cast; rfl, hb, by omega⟩
abbrev N_law_new_jar : List Str := ["cell", "seed"]
theorem sc_law_new_jar : FnScope N_law_new_jar ["cell"] (defScope s__law_new_jar) := ⟨rfl, rfl, rfl, by decide +kernel, rfl, by decide +kernel, by decide +kernel⟩
def dNewJar : XF := fun as ce Q => ∃ i : Int, as = [.d (.int i)] ∧ ce = [] ∧ ∀ js, JarOk 0 js → Q (.c 0) [.own js]
theorem d_new_jar (D : Dfn K mg "_law_new_jar" s__law_new_jar ["cell"]) (z : Z mg) : DOk P w K mg base 1 "_law_new_jar" ["cell"] dNewJar := by
  refine def_ok D sc_law_new_jar (fun as ce Q h => ?_) (fun f cdv A outer s H E hc hr => (dss_cons (ds_set 1 (fun _ => sc_law_new_jar.nd) (fun _ => rfl) (fun _ => Or.inl rfl) (de_op do_mod (de_callTy dc_int (fun _ => rfl) (fun _ => z.int) (by decide +kernel) (da_cons (de_var 0) da_nil)) de_int))
      (dss_cons (ds_if (dt_cmp do_ge (de_var 0) (de_op do_pow de_int de_int) (nomark _)) (dss_one (ds_ret (de_lst (da_cons (de_var 0) (da_cons (de_var 1) (da_cons de_int da_nil)))))) dss_nil)
      (dss_one (ds_ret (de_lst (da_cons de_int (da_cons (de_var 1) (da_cons de_int da_nil))))))))) (fun as ce Qd h => ?_)
  · obtain ⟨i, rfl, _⟩ := h
    rfl
  · obtain ⟨i, rfl, rfl, q⟩ := h
    refine ⟨(by show (0 : Int) < 2305843009213693951; decide), ?_⟩
    refine ⟨⟨by decide, by decide, by decide⟩, ?_⟩
    have h1 : ∃ b : Nat, i % 2305843009213693951 = (b : Int) ∧ b < 2 ^ 61 := ⟨(i % 2305843009213693951).toNat, by omega, by omega⟩
    obtain ⟨b, eb, hb⟩ := h1
    refine ite2 (fun h => ?_) (fun h => ?_)
    · have i0 : 0 ≤ i := by
        have := of_decide_eq_true h
        have e : ((10 : Int) ^ (18 : Int).toNat) = 1000000000000000000 := by decide
        omega
      refine ⟨rfl, ?_⟩
      show Qd (.c 0) [.own [.int i, .int (i % 2305843009213693951), .int 0]]
      rw [eb, show i = ((i.toNat : Nat) : Int) by omega]
      exact q _ ⟨i.toNat, b, 0, rfl, hb, Nat.le_refl _⟩
    · refine ⟨rfl, ?_⟩
      show Qd (.c 0) [.own [.int 0, .int (i % 2305843009213693951), .int 0]]
      rw [eb]
      exact q _ ⟨0, b, 0, rfl, hb, Nat.le_refl _⟩
abbrev N_law_row_of : List Str := ["mask", "many", "k"]
theorem sc_law_row_of : FnScope N_law_row_of ["mask", "many"] (defScope s__law_row_of) := ⟨rfl, rfl, rfl, by decide +kernel, rfl, by decide +kernel, by decide +kernel⟩
def dRowOf : XF := fun as ce Q => ∃ m n : Nat, as = [.d (.int m), .d (.int n)] ∧ ce = [] ∧ n ≤ 1000 ∧ Q (.d (.tup (natT (bitsL m n)))) []
theorem d_row_of (D : Dfn K mg "_law_row_of" s__law_row_of ["mask", "many"]) (z : Z mg) : DOk P w K mg base 1 "_law_row_of" ["mask", "many"] dRowOf := by
  refine def_ok D sc_law_row_of (fun as ce Q h => ?_) (fun f cdv A outer s H E hc hr => (dss_one (ds_ret (de_callTy (dc_tup (K := K)) (fun _ => rfl) (fun _ => z.tuple) (by decide +kernel) (da_cons (de_lc (own := [("k", 2)]) (fun _ => rfl) (fun _ => sc_law_row_of.nd) (di_rng1 (fun _ => rfl) (fun _ => z.range) (da_cons (de_var 1) da_nil)) (fun _ => blkOk_by (N := N_law_row_of) (own := [("k", 2)]) (sc := defScope s__law_row_of) (by decide +kernel)) (cg_name 2 (fun _ => sc_law_row_of.nd) (fun _ => rfl) (fun _ => Or.inl rfl)) (dts_one (dt_cmp (do_eq (K := K) (fun _ => hr.units)) (de_op do_and (de_op do_shr (de_var 0) (de_var 2)) de_int) de_int (nomark _))) (de_var 2)) da_nil))))) (fun as ce Qd h => ?_)
  · obtain ⟨m, n, rfl, _⟩ := h
    rfl
  · obtain ⟨m, n, rfl, rfl, hn, q⟩ := h
    refine ⟨⟨by omega, by omega⟩, ?_⟩
    refine comp_rngF m.testBit (fun k => .int k) (by omega) (fun k hk R N h1 h0 => ?_) ⟨_, rfl, q⟩
    refine ⟨by show (0 : Int) ≤ k; omega, ?_⟩
    show if decide (Builtin.bitAnd ((m : Int) / 2 ^ ((k : Int)).toNat) 1 = 1) = true then _ else _
    rw [bit1]
    exact ite2 (fun h => h1 h) (fun h => h0 (by simpa using h))
abbrev N_law_weigh : List Str := ["jar", "heavy"]
theorem sc_law_weigh : FnScope N_law_weigh ["jar", "heavy"] (defScope s__law_weigh) := ⟨rfl, rfl, rfl, by decide +kernel, rfl, by decide +kernel, by decide +kernel⟩
def dWeigh : XF := fun as ce Q => ∃ (k n : Nat) (js : List Dt), as = [.c 0, .d (.int n)] ∧ ce = [.own js] ∧ JarOk k js ∧ k < 10 ^ 6 ∧ 0 < n ∧ n < 2 ^ 200 ∧ ∀ (x : Nat) js', 0 < x → x ≤ n → JarOk (k + 1) js' → Q (.d (.int x)) [.own js']
theorem d_weigh (D : Dfn K mg "_law_weigh" s__law_weigh ["jar", "heavy"]) (O_law_take : DOk P w K mg base 1 "_law_take" ["jar", "upto"] dTake) : DOk P w K mg base 2 "_law_weigh" ["jar", "heavy"] dWeigh := by
  refine def_ok D sc_law_weigh (fun as ce Q h => ?_) (fun f cdv A outer s H E hc hr => (dss_one (ds_ret (de_op (do_add (K := K)) de_int (de_j (fun _ => O_law_take) (fun _ => hc) (fun _ => hr.mono (by decide)) (da_cons (de_var 0) (da_cons (de_var 1) da_nil))))))) (fun as ce Qd h => ?_)
  · obtain ⟨k, n, js, rfl, _⟩ := h
    rfl
  · obtain ⟨k, n, js, rfl, rfl, jo, hk, n0, hn, q⟩ := h
    refine ⟨_, _, rfl, List.not_mem_nil, rfl, k, n, js, rfl, rfl, jo, hk, n0, hn, fun x js' hx jo' => ?_⟩
    show Qd (.d (.int (1 + (x : Int)))) [.own js']
    rw [show (1 + (x : Int)) = ((1 + x : Nat) : Int) by omega]
    exact q _ _ (by omega) (by omega) jo'
abbrev N_law_is_tied : List Str := ["jar", "way", "a", "b"]
theorem sc_law_is_tied : FnScope N_law_is_tied ["jar", "way", "a", "b"] (defScope s__law_is_tied) := ⟨rfl, rfl, rfl, by decide +kernel, rfl, by decide +kernel, by decide +kernel⟩
def dIsTied : XF := fun as ce Q => ∃ (k wy a b : Nat) (js : List Dt), as = [.c 0, .d (.int wy), .d (.int a), .d (.int b)] ∧ ce = [.own js] ∧ JarOk k js ∧ k < 10 ^ 6 ∧ ∀ (x : Bool) js', JarOk (k + 1) js' → Q (.d (.bl x)) [.own js']
theorem d_is_tied (D : Dfn K mg "_law_is_tied" s__law_is_tied ["jar", "way", "a", "b"]) (O_law_take : DOk P w K mg base 1 "_law_take" ["jar", "upto"] dTake) : DOk P w K mg base 2 "_law_is_tied" ["jar", "way", "a", "b"] dIsTied := by
  refine def_ok D sc_law_is_tied (fun as ce Q h => ?_) (fun f cdv A outer s H E hc hr => (dss_cons (ds_if (dt_cmp (do_eq (K := K) (fun _ => hr.units)) (de_var 1) de_int (nomark _)) (dss_one (ds_ret (de_cmp do_gt (de_j (fun _ => O_law_take) (fun _ => hc) (fun _ => hr.mono (by decide)) (da_cons (de_var 0) (da_cons de_int da_nil))) de_int (nomark _)))) dss_nil)
      (dss_cons (ds_if (dt_cmp (do_eq (K := K) (fun _ => hr.units)) (de_var 1) de_int (nomark _)) (dss_one (ds_ret (de_cmp (do_eq (K := K) (fun _ => hr.units)) (de_j (fun _ => O_law_take) (fun _ => hc) (fun _ => hr.mono (by decide)) (da_cons (de_var 0) (da_cons de_int da_nil))) de_int (nomark _)))) dss_nil)
      (dss_cons (ds_if (dt_cmp (do_eq (K := K) (fun _ => hr.units)) (de_var 1) de_int (nomark _)) (dss_one (ds_ret (de_cmp (do_eq (K := K) (fun _ => hr.units)) (de_var 3) (de_op (do_add (K := K)) (de_var 2) de_int) (nomark _)))) dss_nil)
      (dss_cons (ds_if (dt_cmp (do_eq (K := K) (fun _ => hr.units)) (de_var 1) de_int (nomark _)) (dss_one (ds_ret (de_or (de_cmp (do_eq (K := K) (fun _ => hr.units)) (de_var 2) de_int (nomark _)) (de_one (de_cmp (do_eq (K := K) (fun _ => hr.units)) (de_var 3) (de_op (do_add (K := K)) (de_var 2) de_int) (nomark _)))))) dss_nil)
      (dss_one (ds_ret de_bl))))))) (fun as ce Qd h => ?_)
  · obtain ⟨k, wy, a, b, js, rfl, _⟩ := h
    rfl
  · obtain ⟨k, wy, a, b, js, rfl, rfl, jo, hk, q⟩ := h
    refine ite2 (fun _ => ?_) (fun _ => ?_)
    · exact ⟨_, _, rfl, List.not_mem_nil, rfl, k, 4, js, rfl, rfl, jo, hk, by decide, by decide, fun x js' _ jo' => q _ _ jo'⟩
    refine ite2 (fun _ => ?_) (fun _ => ?_)
    · exact ⟨_, _, rfl, List.not_mem_nil, rfl, k, 3, js, rfl, rfl, jo, hk, by decide, by decide, fun x js' _ jo' => q _ _ jo'⟩
    refine ite2 (fun _ => ?_) (fun _ => ?_)
    · exact q _ _ (jo.up (by omega))
    refine ite2 (fun _ => ?_) (fun _ => ?_)
    · exact ite2 (fun _ => q true _ (jo.up (by omega))) (fun _ => q _ _ (jo.up (by omega)))
    · exact q true _ (jo.up (by omega))
end
end TD
set_option Elab.async false
set_option linter.all false
set_option maxRecDepth 100000
set_option maxHeartbeats 1000000
/-! ropes: the ties of a web, drawn -/
namespace TD
open PySem PySem.Spec PyProof.Rows L2 TW
def arcT (t : Arc) : Dt := .tup [.int t.1, .int t.2.1, .int t.2.2]
theorem perm_mapB {α β : Type} {f : α → β} : ∀ {xs : List α} {ys : List β}, ys.Perm (xs.map f) → ∃ W : List α, W.Perm xs ∧ ys = W.map f := by
  intro xs ys hpm
  have := hpm.symm
  generalize hl : xs.map f = l at this
  clear hpm
  induction this generalizing xs with
  | nil =>
    cases xs with
    | nil => exact ⟨[], .refl _, rfl⟩
    | cons c cs => cases hl
  | @cons b l1 l2 p ih =>
    cases xs with
    | nil => cases hl
    | cons c cs =>
      rw [List.map_cons, List.cons.injEq] at hl
      obtain ⟨e1, e2⟩ := hl
      obtain ⟨cs', p', e'⟩ := ih e2
      exact ⟨c :: cs', p'.cons c, by rw [List.map_cons, e1, e']⟩
  | swap b b2 l =>
    match xs, hl with
    | [], hl => cases hl
    | [_], hl => cases hl
    | c :: c2 :: cs, hl =>
      rw [List.map_cons, List.map_cons, List.cons.injEq, List.cons.injEq] at hl
      obtain ⟨e1, e2, e3⟩ := hl
      exact ⟨c2 :: c :: cs, .swap _ _ _, by rw [List.map_cons, List.map_cons, e1, e2, e3]⟩
  | trans p1 p2 ih1 ih2 =>
    obtain ⟨c1, q1, e1⟩ := ih1 hl
    obtain ⟨c2, q2, e2⟩ := ih2 e1.symm
    exact ⟨c2, q2.trans q1, e2⟩
theorem arcs_sorted {n : Nat} {ts A : List Arc} (nd : A.Nodup) (h : ∀ t, t ∈ A ↔ t ∈ sumA n ts) {ds : List Dt} (pm : ds.Perm (A.map arcT)) (pw : ds.Pairwise fun x y => PySem.W.dataLt (toPy y) (toPy x) = false) : ds = (sumA n ts).map arcT := by
  obtain ⟨B, pB, rfl⟩ := perm_mapB pm
  congr 1
  have pwB : (B.map arcL).Pairwise fun x y => HT.lexLt y x = false := by
    rw [List.pairwise_map] at pw ⊢
    exact pw.imp fun {x y} q => by
      rw [← lt_tupD]
      exact q
  have ndL : (B.map arcL).Nodup := by
    unfold List.Nodup
    rw [List.pairwise_map]
    exact List.Pairwise.imp (fun {a b} (hn : a ≠ b) e => hn (arcL_inj e)) (pB.nodup_iff.mpr nd)
  have : B.map arcL = (sumA n ts).map arcL := strict_ext lex_asymm (lots_strict pwB ndL) (sumA_lex n ts) fun z => by
    rw [List.mem_map, List.mem_map]
    constructor
    · rintro ⟨t, ht, e⟩
      exact ⟨t, (h t).mp (pB.mem_iff.mp ht), e⟩
    · rintro ⟨t, ht, e⟩
      exact ⟨t, pB.mem_iff.mpr ((h t).mpr ht), e⟩
  refine List.ext_getElem? fun i => ?_
  have e := congrArg (·[i]?) this
  simp only [List.getElem?_map] at e
  cases h1 : B[i]? with
  | none =>
    rw [h1] at e
    cases h2 : (sumA n ts)[i]? with
    | none => rfl
    | some y => rw [h2] at e; cases e
  | some x =>
    rw [h1] at e
    cases h2 : (sumA n ts)[i]? with
    | none => rw [h2] at e; cases e
    | some y =>
      rw [h2] at e
      rw [arcL_inj (Option.some.inj e)]
/-- ties told one by one -/
theorem wOf_key {X : List Arc} (ok : ∀ t ∈ X, t.1 < t.2.1) (nd : (X.map fun t => (t.1, t.2.1)).Nodup) : ∀ t ∈ X, wOf X (t.1, t.2.1) = t.2.2 := by
  induction X with
  | nil => exact fun t h => absurd h List.not_mem_nil
  | cons s X ih =>
    intro t ht
    rw [List.map_cons, List.nodup_cons] at nd
    have hs : endsA s = (s.1, s.2.1) := by
      have := ok s List.mem_cons_self
      unfold endsA
      rw [Nat.min_eq_left (by omega), Nat.max_eq_right (by omega)]
    have key : ∀ {u : Arc}, u ∈ X → endsA u = (u.1, u.2.1) := fun {u} hu => by
      have := ok u (List.mem_cons_of_mem _ hu)
      unfold endsA
      rw [Nat.min_eq_left (by omega), Nat.max_eq_right (by omega)]
    rw [show s :: X = [s] ++ X from rfl, show wOf ([s] ++ X) (t.1, t.2.1) = wOf (X ++ [s]) (t.1, t.2.1) from wOf_perm List.perm_append_comm _, wOf_snoc, hs]
    rcases List.mem_cons.mp ht with e | e
    · subst e
      rw [if_pos rfl, wOf_none fun u hu q => nd.1 (List.mem_map.mpr ⟨u, hu, by rw [← key hu]; exact q⟩)]
      omega
    · rw [if_neg (fun q => nd.1 (List.mem_map.mpr ⟨t, e, q.symm⟩)), ih (fun u hu => ok u (List.mem_cons_of_mem _ hu)) nd.2 t e]
      omega
theorem tie_mem {n : Nat} {A : List Arc} (ok : ∀ t ∈ A, t.1 < t.2.1 ∧ t.2.1 < n ∧ 0 < t.2.2) (nd : (A.map fun t => (t.1, t.2.1)).Nodup) (t : Arc) : t ∈ A ↔ t ∈ sumA n A := by
  rw [mem_sumA]
  constructor
  · intro h
    obtain ⟨h1, h2, h3⟩ := ok t h
    exact ⟨h1, h2, (wOf_key (fun u hu => (ok u hu).1) nd t h).symm, h3⟩
  · rintro ⟨h1, h2, h3, h4⟩
    by_cases c : (t.1, t.2.1) ∈ A.map fun t => (t.1, t.2.1)
    · obtain ⟨s, hs, e⟩ := List.mem_map.mp c
      have w := wOf_key (fun u hu => (ok u hu).1) nd s hs
      have e : (s.1, s.2.1) = (t.1, t.2.1) := e
      rw [e] at w
      rw [Prod.mk.injEq] at e
      have : s = t := Prod.ext e.1 (Prod.ext e.2 (by omega))
      rw [← this]
      exact hs
    · rw [wOf_none fun u hu q => c (List.mem_map.mpr ⟨u, hu, by
        have := (ok u hu).1
        unfold endsA at q
        rw [Nat.min_eq_left (by omega), Nat.max_eq_right (by omega)] at q
        exact q⟩)] at h3
      omega
/-- ropes of a web with n places -/
structure Ropes (n : Nat) (A : List Arc) : Prop where
  net : Net n A
  few : A.length ≤ 81
structure Drw (b a wy k : Nat) (A : List Arc) : Prop where
  ok : ∀ t ∈ A, t.1 < t.2.1 ∧ (t.2.1 < b ∨ (t.2.1 = b ∧ (t.1 < a ∨ wy = 4))) ∧ 0 < t.2.2 ∧ t.2.2 ≤ 10 ^ 12
  nd : (A.map fun t => (t.1, t.2.1)).Nodup
  len : A.length ≤ k
theorem Drw.add {b a wy k : Nat} {A : List Arc} (h : Drw b a wy k A) {x v : Nat} (hx : x < b) (hn : ∀ t ∈ A, t.2.1 = b → t.1 ≠ x) (a' : Nat) (ha : a ≤ a') (hxa : x < a' ∨ wy = 4) (v0 : 0 < v) (v1 : v ≤ 10 ^ 12) : Drw b a' wy (k + 1) (A ++ [(x, b, v)]) := ⟨fun t ht => by
  rcases List.mem_append.mp ht with h1 | h1
  · obtain ⟨a1, a2, a3⟩ := h.ok t h1
    exact ⟨a1, by rcases a2 with z | ⟨z, z | z⟩ <;> omega, a3⟩
  · rw [List.mem_singleton.mp h1]
    exact ⟨hx, .inr ⟨rfl, hxa⟩, v0, v1⟩, by
  rw [List.map_append]
  refine List.nodup_append.mpr ⟨h.nd, List.nodup_cons.mpr ⟨List.not_mem_nil, List.nodup_nil⟩, fun p hp q hq e => ?_⟩
  obtain ⟨t, ht, et⟩ := List.mem_map.mp hp
  have hq : q = (x, b) := List.mem_singleton.mp hq
  rw [hq, ← et, Prod.mk.injEq] at e
  exact hn t ht e.2 e.1, by rw [List.length_append, List.length_singleton]; have := h.len; omega⟩
theorem Drw.up {b a wy k b' a' k' : Nat} {A : List Arc} (h : Drw b a wy k A) (hb : b ≤ b') (ha : b = b' → a ≤ a') (hk : k ≤ k') : Drw b' a' wy k' A := ⟨fun t ht => by
  obtain ⟨a1, a2, a3⟩ := h.ok t ht
  exact ⟨a1, by rcases a2 with z | ⟨z, z | z⟩ <;> omega, a3⟩, h.nd, Nat.le_trans h.len hk⟩
theorem four_heavy {x : Nat} (h : x < 4) : ∃ v : Nat, atI [Dt.int 1, .int 3, .int 12, .int 999999999999] (x : Int) = some (.int v) ∧ 0 < v ∧ v < 10 ^ 12 := by
  have : x = 0 ∨ x = 1 ∨ x = 2 ∨ x = 3 := by omega
  rcases this with rfl | rfl | rfl | rfl
  · exact ⟨1, rfl, by decide, by decide⟩
  · exact ⟨3, rfl, by decide, by decide⟩
  · exact ⟨12, rfl, by decide, by decide⟩
  · exact ⟨999999999999, rfl, by decide, by decide⟩
theorem pl_arc (n : Nat) (t : Arc) : pl (n + 1) (arcT t) = true := by
  cases n <;> rfl
section
variable {P : Program} {w : World} {K : PySem.W.Frag} {mg : Str → Option Value} {base : Heap}
abbrev N_law_draw_ropes : List Str := ["jar", "size", "way", "heavy", "ropes", "b", "a"]
theorem sc_law_draw_ropes : FnScope N_law_draw_ropes ["jar", "size"] (defScope s__law_draw_ropes) := ⟨rfl, rfl, rfl, by decide +kernel, rfl, by decide +kernel, by decide +kernel⟩
def dDrawRopes : XF := fun as ce Q => ∃ (k n : Nat) (js : List Dt), as = [.c 0, .d (.int n)] ∧ ce = [.own js] ∧ JarOk k js ∧ k < 10 ^ 5 ∧ 0 < n ∧ n ≤ 9 ∧ ∀ (A : List Arc) js', Ropes n A → (∀ t ∈ A, t.2.2 ≤ 10 ^ 12) → JarOk (k + 400) js' → Q (.c 1) [.own js', .own (A.map arcT)]
theorem d_draw_ropes (D : Dfn K mg "_law_draw_ropes" s__law_draw_ropes ["jar", "size"]) (z : Z mg) (O_law_take : DOk P w K mg base 1 "_law_take" ["jar", "upto"] dTake) (O_law_weigh : DOk P w K mg base 2 "_law_weigh" ["jar", "heavy"] dWeigh) (O_law_is_tied : DOk P w K mg base 2 "_law_is_tied" ["jar", "way", "a", "b"] dIsTied) : DOk P w K mg base 3 "_law_draw_ropes" ["jar", "size"] dDrawRopes := by
  refine def_ok D sc_law_draw_ropes (fun as ce Q h => ?_) (fun f cdv A outer s H E hc hr => (dss_cons (ds_set 2 (fun _ => sc_law_draw_ropes.nd) (fun _ => rfl) (fun _ => Or.inl rfl) (de_j (fun _ => O_law_take) (fun _ => hc) (fun _ => hr.mono (by decide)) (da_cons (de_var 0) (da_cons de_int da_nil))))
      (dss_cons (ds_set 3 (fun _ => sc_law_draw_ropes.nd) (fun _ => rfl) (fun _ => Or.inl rfl) (de_ix (K := K) (de_lst (da_cons de_int (da_cons de_int (da_cons de_int (da_cons de_int da_nil))))) (de_j (fun _ => O_law_take) (fun _ => hc) (fun _ => hr.mono (by decide)) (da_cons (de_var 0) (da_cons de_int da_nil))) (fun _ _ => rfl)))
      (dss_cons (ds_set 4 (fun _ => sc_law_draw_ropes.nd) (fun _ => rfl) (fun _ => Or.inl rfl) (de_lst da_nil))
      (dss_cons (ds_for (fun _ => PassesOwn.never) (fun _ => rfl) (di_rng1 (fun _ => rfl) (fun _ => z.range) (da_cons (de_var 1) da_nil)) (dg_name 5 (fun _ => sc_law_draw_ropes.nd) (fun _ => rfl) (fun _ => Or.inl rfl))
        (dss_cons (ds_J (ds_if (dt_J (dw_t (dw_and (dt_cmp (do_eq (K := K) (fun _ => hr.units)) (de_var 2) de_int (nomark _)) (dw_and1 (dt_cmp do_gt (de_var 5) de_int (nomark _)))))) (dss_one (ds_expr (de_app (K := K) (de_var 4) (da_cons (de_tup (da_cons (de_j (fun _ => O_law_take) (fun _ => hc) (fun _ => hr.mono (by decide)) (da_cons (de_var 0) (da_cons (de_var 5) da_nil))) (da_cons (de_var 5) (da_cons (de_j (fun _ => O_law_weigh) (fun _ => hc) (fun _ => hr.mono (by decide)) (da_cons (de_var 0) (da_cons (de_var 3) da_nil))) da_nil)))) da_nil)))) dss_nil))
      (dss_one (ds_for (fun _ => PassesOwn.never) (fun _ => rfl) (di_rng1 (fun _ => rfl) (fun _ => z.range) (da_cons (de_var 5) da_nil)) (dg_name 6 (fun _ => sc_law_draw_ropes.nd) (fun _ => rfl) (fun _ => Or.inl rfl))
        (dss_one (ds_J (ds_if (dt_J (dw_t (dw_and (dt_cmp (do_ne (K := K) (fun _ => hr.units)) (de_var 2) de_int (nomark _)) (dw_and1 (dt_val (de_j (fun _ => O_law_is_tied) (fun _ => hc) (fun _ => hr.mono (by decide)) (da_cons (de_var 0) (da_cons (de_var 2) (da_cons (de_var 6) (da_cons (de_var 5) da_nil)))))))))) (dss_one (ds_expr (de_app (K := K) (de_var 4) (da_cons (de_tup (da_cons (de_var 6) (da_cons (de_var 5) (da_cons (de_j (fun _ => O_law_weigh) (fun _ => hc) (fun _ => hr.mono (by decide)) (da_cons (de_var 0) (da_cons (de_var 3) da_nil))) da_nil)))) da_nil)))) dss_nil)))))))
      (dss_one (ds_ret (de_callB (dc_sortT (K := K) (fun _ => hr.units)) (fun _ => rfl) (fun _ => z.sorted) (by decide +kernel) (da_cons (de_var 4) da_nil))))))))) (fun as ce Qd h => ?_)
  · obtain ⟨k, n, js, rfl, _⟩ := h
    rfl
  · obtain ⟨k, n, js, rfl, rfl, jo, hk, n0, hn, q⟩ := h
    refine ⟨_, _, rfl, List.not_mem_nil, rfl, k, 6, js, rfl, rfl, jo, by omega, by decide, by decide, fun wy js1 hwy jo1 => ?_⟩
    refine ⟨rfl, ?_⟩
    refine ⟨_, _, rfl, List.not_mem_nil, rfl, k + 1, 4, js1, rfl, rfl, jo1, by omega, by decide, by decide, fun x js2 hx jo2 => ?_⟩
    obtain ⟨hv, e1, v0, v1⟩ := four_heavy hx
    refine ⟨_, _, _, rfl, rfl, e1, ?_⟩
    refine ⟨rfl, ?_⟩
    refine ⟨⟨by omega, by omega⟩, ?_⟩
    refine for_rng (fun b s => ∃ (js : List Dt) (A : List Arc) (vb va : Option Rf), s = ⟨[some (.c 0), some (.d (.int n)), some (.d (.int wy)), some (.d (.int hv)), some (.c 2), vb, va], [.own js, .own [.int 1, .int 3, .int 12, .int 999999999999], .own (A.map arcT)]⟩ ∧ JarOk (k + 2 + 25 * b) js ∧ Drw b 0 wy (25 * b) A ∧ ∀ t ∈ A, t.2.1 < b) ⟨js2, [], none, none, rfl, jo2, ⟨fun t h => absurd h List.not_mem_nil, List.nodup_nil, Nat.le_refl _⟩, fun t h => absurd h List.not_mem_nil⟩ ?_ ?_
    · rintro b s hb ⟨js3, A, vb, va, rfl, jo3, dr, lt3⟩
      -- the first rope of b
      refine ⟨fun s => ∃ (js : List Dt) (A : List Arc), s = ⟨[some (.c 0), some (.d (.int n)), some (.d (.int wy)), some (.d (.int hv)), some (.c 2), some (.d (.int (b : Nat))), va], [.own js, .own [.int 1, .int 3, .int 12, .int 999999999999], .own (A.map arcT)]⟩ ∧ JarOk (k + 2 + 25 * b + 2) js ∧ Drw b 0 wy (25 * b + 1) A, ?_, ?_⟩
      · refine ⟨fun t ce => ce = [.own js3, .own [.int 1, .int 3, .int 12, .int 999999999999], .own (A.map arcT)] ∧ (t = true → wy = 4 ∧ 0 < b), ?_, ?_⟩
        · refine ite2 (fun h => ?_) (fun h => ⟨rfl, fun z => nomatch z⟩)
          have := of_decide_eq_true h
          exact ⟨rfl, fun z => ⟨by omega, by have := of_decide_eq_true z; omega⟩⟩
        · rintro t ce ⟨rfl, ht⟩
          refine ite2 (fun h => ?_) (fun h => ⟨js3, A, rfl, jo3.up (by omega), dr.up (Nat.le_refl _) (fun _ => Nat.le_refl _) (by omega)⟩)
          obtain ⟨h4, b0⟩ := ht h
          refine ⟨⟨_, rfl⟩, ?_⟩
          refine ⟨_, _, rfl, List.not_mem_nil, rfl, _, b, js3, rfl, rfl, jo3, by omega, b0, Nat.lt_of_lt_of_le (by omega : b < 16) (by decide), fun x js4 hx jo4 => ?_⟩
          refine ⟨_, _, rfl, List.not_mem_nil, rfl, _, hv, js4, rfl, rfl, jo4, by omega, v0, Nat.lt_trans v1 (by decide), fun v js5 p0 p1 jo5 => ?_⟩
          refine ⟨rfl, ?_⟩
          refine ⟨2, _, _, rfl, rfl, rfl, by rw [List.length_map]; have := dr.len; omega, ?_⟩
          refine ⟨js5, A ++ [(x, b, v)], by rw [List.map_append]; rfl, jo5.up (by omega), dr.add hx (fun t ht e => ?_) 0 (Nat.le_refl _) (.inr h4) p0 (by omega)⟩
          have := lt3 t ht
          omega
      rintro s ⟨js4, A4, rfl, jo4, dr4⟩
      refine ⟨⟨by omega, by omega⟩, ?_⟩
      refine for_rng (fun a s => ∃ (js : List Dt) (A : List Arc) (va : Option Rf), s = ⟨[some (.c 0), some (.d (.int n)), some (.d (.int wy)), some (.d (.int hv)), some (.c 2), some (.d (.int (b : Nat))), va], [.own js, .own [.int 1, .int 3, .int 12, .int 999999999999], .own (A.map arcT)]⟩ ∧ JarOk (k + 2 + 25 * b + 2 + 2 * a) js ∧ Drw b a wy (25 * b + 2 + 2 * a) A) ⟨js4, A4, va, rfl, jo4, dr4.up (Nat.le_refl _) (fun _ => Nat.le_refl _) (by omega)⟩ ?_ ?_
      · rintro a s ha ⟨js5, A5, va, rfl, jo5, dr5⟩
        refine ⟨fun s => ∃ (js : List Dt) (A : List Arc), s = ⟨[some (.c 0), some (.d (.int n)), some (.d (.int wy)), some (.d (.int hv)), some (.c 2), some (.d (.int (b : Nat))), some (.d (.int (a : Nat)))], [.own js, .own [.int 1, .int 3, .int 12, .int 999999999999], .own (A.map arcT)]⟩ ∧ JarOk (k + 2 + 25 * b + 2 + 2 * (a + 1)) js ∧ Drw b (a + 1) wy (25 * b + 2 + 2 * (a + 1)) A, ?_, ?_⟩
        · refine ⟨fun t ce => ∃ js, ce = [.own js, .own [.int 1, .int 3, .int 12, .int 999999999999], .own (A5.map arcT)] ∧ JarOk (k + 2 + 25 * b + 2 + 2 * a + 1) js ∧ (t = true → wy ≠ 4), ?_, ?_⟩
          · refine ite2 (fun h => ?_) (fun h => ⟨js5, rfl, jo5.up (by omega), fun z => nomatch z⟩)
            refine ⟨_, _, rfl, List.not_mem_nil, rfl, _, wy, a, b, js5, rfl, rfl, jo5, by omega, fun t js6 jo6 => ⟨js6, rfl, jo6, fun _ e => ?_⟩⟩
            have h : (!decide ((wy : Int) = 4)) = true := h
            rw [decide_eq_true (by omega)] at h
            cases h
          · rintro t ce ⟨js6, rfl, jo6, h4⟩
            refine ite2 (fun h => ?_) (fun h => ⟨js6, A5, rfl, jo6.up (by omega), dr5.up (Nat.le_refl _) (fun _ => by omega) (by omega)⟩)
            refine ⟨⟨_, rfl⟩, ?_⟩
            refine ⟨_, _, rfl, List.not_mem_nil, rfl, _, hv, js6, rfl, rfl, jo6, by omega, v0, Nat.lt_trans v1 (by decide), fun v js7 p0 p1 jo7 => ?_⟩
            refine ⟨rfl, ?_⟩
            refine ⟨2, _, _, rfl, rfl, rfl, by rw [List.length_map]; have := dr5.len; omega, ?_⟩
            refine ⟨js7, A5 ++ [(a, b, v)], by rw [List.map_append]; rfl, jo7.up (by omega), (dr5.add ha (fun t ht e => ?_) (a + 1) (by omega) (.inl (by omega)) p0 (by omega)).up (Nat.le_refl _) (fun _ => Nat.le_refl _) (by omega)⟩
            have := (dr5.ok t ht).2.1
            have := h4 h
            omega
        · rintro s ⟨js6, A6, rfl, jo6, dr6⟩
          exact .inl ⟨js6, A6, _, rfl, jo6, dr6⟩
      · rintro s ⟨js5, A5, va, rfl, jo5, dr5⟩
        exact .inl ⟨js5, A5, _, _, rfl, jo5.up (by omega), dr5.up (by omega) (fun e => by omega) (by omega), fun t ht => by have := (dr5.ok t ht).2.1; omega⟩
    · rintro s ⟨js3, A, vb, va, rfl, jo3, dr, lt3⟩
      have ok : ∀ t ∈ A, t.1 < t.2.1 ∧ t.2.1 < n ∧ 0 < t.2.2 := fun t ht => by
        obtain ⟨a1, a2, a3, _⟩ := dr.ok t ht
        exact ⟨a1, lt3 t ht, a3⟩
      have mem := tie_mem ok dr.nd
      have ndA : A.Nodup := by
        have := dr.nd
        unfold List.Nodup at this ⊢
        rw [List.pairwise_map] at this
        exact this.imp fun {x y} h e => h (by rw [e])
      refine ⟨_, rfl, ⟨.inr fun d hd => ?_, fun d hd => ?_⟩, fun ds pm pw => ?_⟩
      · obtain ⟨t, _, rfl⟩ := List.mem_map.mp hd
        exact ⟨arcL t, rfl⟩
      · obtain ⟨t, _, rfl⟩ := List.mem_map.mp hd
        exact pl_arc 19 t
      · rw [arcs_sorted ndA mem pm pw]
        refine q (sumA n A) js3 ⟨net_sum A n0 (by omega), Nat.le_trans (sumA_len n A) (Nat.mul_le_mul hn hn)⟩ (fun t ht => ?_) (jo3.up (by omega))
        have := (mem t).mpr ht
        exact (dr.ok t this).2.2.2
end
end TD
set_option Elab.async false
set_option linter.all false
set_option maxRecDepth 100000
set_option maxHeartbeats 1000000
/-! webs as trees -/
namespace TD
open PySem PySem.Spec PyProof.Rows L2 TW
theorem iss_of_ats {H : Hp} {P : Dt → Prop} (ih : ∀ x d, P d → At H x (toPy d) → Is H x d) {xs : List V} {ds : List Dt} (h : Ats H xs (toPys ds)) (hp : ∀ d ∈ ds, P d) : Iss H xs ds := by
  rw [toPys_map] at h
  refine ⟨by rw [h.1, List.length_map], fun i x d h1 h2 => ih x d (hp d (List.mem_of_getElem? h2)) (h.2 i x (toPy d) h1 (by rw [List.getElem?_map, h2]; rfl))⟩
theorem is_of_at {H : Hp} : ∀ (n : Nat) (x : V) (d : Dt), pl n d = true → At H x (toPy d) → Is H x d
  | n, x, .int i, _, h => by rw [At.isI h]; exact .int i
  | n, x, .non, _, h => by cases h; exact .non
  | n, x, .str y, _, h => by rw [At.isS h]; exact .str y
  | 0, x, .tup ds, h, _ => by cases h
  | 0, x, .lst ds, h, _ => by cases h
  | n + 1, x, .tup ds, hp, h => by
    obtain ⟨a, xs, rfl, h1, h2⟩ := At.isT h
    exact (iss_of_ats (P := fun d => pl n d = true) (fun x d => is_of_at n x d) h2 (List.all_eq_true.mp hp)).mkT h1
  | n + 1, x, .lst ds, hp, h => by
    obtain ⟨a, xs, rfl, h1, h2⟩ := At.isL h
    exact (iss_of_ats (P := fun d => pl n d = true) (fun x d => is_of_at n x d) h2 (List.all_eq_true.mp hp)).mkL h1
  | n, x, .bl b, h, _ => by cases n <;> cases h
  | n, x, .ins _ _, h, _ => by cases n <;> cases h
  | n, x, .raw _, h, _ => by cases n <;> cases h
  | n, x, .prm _, h, _ => by cases n <;> cases h
theorem toPy_arcs (ts : List Arc) : toPys (ts.map arcT) = ts.map arcD := by
  rw [toPys_map, List.map_map]
  rfl
theorem arcs_iss {H : Hp} {xs : List V} {ts : List Arc} : Iss H xs (ts.map arcT) ↔ Ats H xs (ts.map arcD) := by
  rw [← toPy_arcs]
  constructor
  · exact fun h => ats_of (P := fun d => pl 1 d = true) (fun x d => at_pl 1 x d) h fun d hd => by
      obtain ⟨t, _, rfl⟩ := List.mem_map.mp hd
      exact pl_arc 0 t
  · exact fun h => iss_of_ats (P := fun d => pl 1 d = true) (fun x d => is_of_at 1 x d) h fun d hd => by
      obtain ⟨t, _, rfl⟩ := List.mem_map.mp hd
      exact pl_arc 0 t
def webT (C : Addr) (n : Nat) (ts : List Arc) : Dt := .ins C [("_places", .int n), ("_ties", .tup (ts.map arcT))]
theorem wf_eq (n : Nat) (l : Addr) : wf n l = [(("_places" : Str), V.int n), (("_ties" : Str), V.ref l)] := by
  unfold wf
  show putF "_ties" (.ref l) [(("_places" : Str), V.int n)] = _
  unfold putF
  rw [if_neg (fun h => wt_ne h.symm)]
  rfl
theorem is_web {C : Addr} {G : Hp} {v : V} {n : Nat} {ts : List Arc} : Is G v (webT C n ts) ↔ ∃ a, v = .ref a ∧ WebAt C G a n ts := by
  constructor
  · intro h
    cases h with
    | @ins a _ dx fl _ h1 h2 h3 =>
      match fl, h2 with
      | [(k1, v1), (k2, v2)], h2 =>
        cases h2
        have i1 : Is G v1 (.int n) := h3 0 _ _ rfl rfl
        have i2 : Is G v2 (.tup (ts.map arcT)) := h3 1 _ _ rfl rfl
        cases i1
        obtain ⟨l, xs, rfl, t1, t2⟩ := i2.inT
        exact ⟨a, rfl, dx, l, xs, by rw [wf_eq]; exact h1, t1, arcs_iss.mp t2⟩
  · rintro ⟨a, rfl, dx, l, xs, h1, t1, t2⟩
    rw [wf_eq] at h1
    refine .ins h1 rfl fun i x d e1 e2 => ?_
    match i, e1, e2 with
    | 0, e1, e2 => cases e1; cases e2; exact .int _
    | 1, e1, e2 => cases e1; cases e2; exact (arcs_iss.mpr t2).mkT t1
theorem natT_int (l : List Nat) : natT l = (rowI l).map Dt.int := by
  unfold natT rowI
  rw [List.map_map]
  rfl
theorem is_row {G : Hp} {v : V} {l : List Nat} : Is G v (.tup (natT l)) ↔ ∃ a, v = .ref a ∧ G a = some (.tup ((rowI l).map V.int)) := by
  rw [natT_int]
  constructor
  · intro h
    obtain ⟨a, xs, rfl, h1, h2⟩ := h.inT
    exact ⟨a, rfl, by rw [← h2.ints]; exact h1⟩
  · rintro ⟨a, rfl, h⟩
    exact (iss_ints G _).mkT h
section
variable {P : Program} {w : World} {K : PySem.W.Frag} {mg : Str → Option Value} {base : Heap} {C : Addr}
def dWeb (C : Addr) : XF := fun as ce Q => ∃ (n : Nat) (ts : List Arc), as = [.d (.int n), .d (.lst (ts.map arcT))] ∧ ce = [] ∧ (∀ t ∈ ts, arcOk n t) ∧ ts.length ≤ 1000 ∧ 0 < n ∧ n ≤ 100 ∧ Q (.d (webT C n (sumA n ts))) []
theorem mk_web {fi : Addr} {fid : FuncData} (M : WM P w K mg base C fi fid) : ∀ vs H Q, spOf (dWeb C) vs H Q E0 → ∀ x dx, H x = none → H dx = none → dx ≠ x → spWInit C (.ref x :: vs) (upd (upd H dx (.own x)) x (.ins C dx [])) (fun v H2 => v = .non ∧ Q (.ref x) H2) E0 := by
  rintro vs H Q ⟨G, fr, ps, ce, as, Qd, R, o, ⟨n, ts, rfl, rfl, hok, lts, hn, hn1, q⟩, fin⟩ x dx nx ndx hne
  obtain rfl := rl_nil R
  cases o with
  | cons o1 o =>
    cases o with
    | cons o2 o =>
      cases o
      have o1 : Is G _ (.int n) := o1
      cases o1
      obtain ⟨l, xs, rfl, h1, h2⟩ := Is.inL (show Is G _ (.lst (ts.map arcT)) from o2)
      obtain ⟨l0, S0, bk, _⟩ := rl_old R
      exact webs_made M nx ndx (fun e => hne e.symm) S0 (Stays.grd h1) (arcs_iss.mp h2) hok lts hn hn1 fun G' H' e S web => fin _ _ G' [] H' _ q e List.prefix_rfl (bk G' H' e S) (is_web.mpr ⟨x, rfl, web⟩)
def tiesR (C : Addr) : Dt → List Cl → XQ → Prop := fun t ce Q => ∃ n ts, t = webT C n ts ∧ Q (.c ce.length) (ce ++ [.own (ts.map arcT)])
def spTiesN (C : Addr) : Sp := fun vs H Q _ => ∃ (a dx l : Addr) (n : Nat) (xs : List V), vs = [.ref a] ∧ H a = some (.ins C dx (wf n l)) ∧ H l = some (.tup xs) ∧ ∀ t, H t = none → Q (.ref t) (upd H t (.lst xs))
theorem ok_ties {f : Addr} {fd : FuncData} (F : Fun K "ties" "Web.ties" s_Web_ties f fd) (z : Z mg) (T : WC K mg C) : FnOk P w K mg base CX0 1 f fd ["self"] (spTiesN C) := by
  refine F.ok sc_Web_ties (fun vs H Q E h => ?_) (fun cdv A outer s H vs Q E hr h => ?_)
  · obtain ⟨a, dx, l, n, xs, rfl, _⟩ := h
    rfl
  · obtain ⟨a, dx, l, n, xs, rfl, h1, h2, q⟩ := h
    exact ⟨_, pss_one (ps_ret (pe_callTy call_list_of (by rfl) z.list (by decide +kernel) (pa_cons (pe_fld (pv 0) rfl) pa_nil))), _, rfl, a, C, dx, _, _, rfl, h1, T.cl, T.nT, wf_ties n l, l, xs, rfl, .inr (Evl.st_of h2), fun t nt => q t nt⟩
theorem sp_ties : SPr C (spTiesN C) (tiesR C) := by
  rintro G fr ps ce H a t Q Qd R o ⟨n, ts, rfl, q⟩ f
  obtain ⟨b, e, dx, l, xs, h1, t1, t2⟩ := is_web.mp o
  cases e
  exact ⟨a, dx, l, n, xs, rfl, R.ex _ _ h1, R.ex _ _ t1, fun p np => fin_lst f R (arcs_iss.mpr t2) q p np⟩
/-- the sides of a least cut -/
noncomputable def lowS (n : Nat) (M : Nat → Nat → Int) (S : List Nat) : List Nat := plcN n (rchB n M S)
noncomputable def highS (n : Nat) (M : Nat → Nat → Int) (T : List Nat) : List Nat := plcN n fun k => !rchB n (backM M) T k
def dLeast (C : Addr) : XF := fun as ce Q => ∃ (n : Nat) (ts : List Arc) (S T : List Nat), as = [.d (webT C n ts), .d (.tup (natT S)), .d (.tup (natT T))] ∧ ce = [] ∧ Net n ts ∧ n ≤ 60 ∧ SideOk n S ∧ SideOk n T ∧ (∀ s ∈ S, s ∉ T) ∧
  ∀ (M : Nat → Nat → Int) (W : Nat), Flow ts n S T M W → (∀ t ∈ T, ¬ ∃ s ∈ S, Rch n M s t) → Q (.d (.tup [.int W, .tup (natT (lowS n M S)), .tup (natT (highS n M T))])) []
theorem sp_least : ∀ vs H Q E, spOf (dLeast C) vs H Q E → spLeast C vs H Q E := by
  rintro vs H Q E ⟨G, fr, ps, ce, as, Qd, R, o, ⟨n, ts, S, T, rfl, rfl, net, hn, hS, hT, ap, q⟩, fin⟩
  obtain rfl := rl_nil R
  cases o with
  | cons o1 o =>
    cases o with
    | cons o2 o =>
      cases o with
      | cons o3 o =>
        cases o
        obtain ⟨a, rfl, web⟩ := is_web.mp o1
        obtain ⟨sa, rfl, hs⟩ := is_row.mp o2
        obtain ⟨ta, rfl, ht⟩ := is_row.mp o3
        obtain ⟨l0, S0, bk, _⟩ := rl_old R
        exact ⟨G, l0, a, sa, ta, n, ts, S, T, rfl, S0, web, net, hn, hs, ht, hS, hT, ap, fun G' H' u lu gu M W e S' fl no hu hl hg => fin _ _ G' [] H' _ (q M W fl no) e List.prefix_rfl (bk G' H' e S') (show Is G' _ (.tup _) from (Iss.cons (.int _) (.cons (is_row.mpr ⟨_, rfl, hl⟩) (.cons (is_row.mpr ⟨_, rfl, hg⟩) .nil))).mkT hu)⟩
end
end TD
set_option Elab.async false
set_option linter.all false
set_option maxRecDepth 100000
set_option maxHeartbeats 1000000
/-! rows, sums, lows -/
namespace TD
open PySem PySem.Spec PyProof.Rows L2 TW
theorem wOf_app2 (ts us : List Arc) (p : Nat × Nat) : wOf (ts ++ us) p = wOf ts p + wOf us p := by
  unfold wOf
  rw [List.filter_append, List.map_append, List.sum_append]
theorem wOf_turn {f : Arc → Arc} (h : ∀ t, endsA (f t) = endsA t ∧ (f t).2.2 = t.2.2) (p : Nat × Nat) : ∀ X : List Arc, wOf (X.map f) p = wOf X p
  | [] => rfl
  | t :: X => by rw [List.map_cons, wOf_cons, wOf_cons, wOf_turn h p X, (h t).1, (h t).2]
def turnA (flip : Nat) (t : Arc) : Arc := if (t.1 + flip) % 3 = 0 then (t.2.1, t.1, t.2.2) else t
theorem turnA_ok (flip : Nat) (t : Arc) : endsA (turnA flip t) = endsA t ∧ (turnA flip t).2.2 = t.2.2 := by
  unfold turnA
  split
  · exact ⟨endsA_swap _ _ _ _, rfl⟩
  · exact ⟨rfl, rfl⟩
/-- rows that tell the same web -/
structure Rows (n : Nat) (A R : List Arc) : Prop where
  ok : ∀ t ∈ R, arcOk n t
  len : R.length ≤ A.length + 2
  sums : ∀ p, wOf R p = wOf A p
section
variable {P : Program} {w : World} {K : PySem.W.Frag} {mg : Str → Option Value} {base : Heap}
abbrev N_law_some_rows : List Str := ["ropes", "flip", "rows", "p", "q", "w", "a", "b"]
theorem sc_law_some_rows : FnScope N_law_some_rows ["ropes", "flip"] (defScope s__law_some_rows) := ⟨rfl, rfl, rfl, by decide +kernel, rfl, by decide +kernel, by decide +kernel⟩
def dSomeRows : XF := fun as ce Q => ∃ (n flip : Nat) (A : List Arc), as = [.d (.lst (A.map arcT)), .d (.int flip)] ∧ ce = [] ∧ Ropes n A ∧ ∀ R : List Arc, Rows n A R → Q (.c 0) [.own (R.map arcT)]
theorem d_some_rows (D : Dfn K mg "_law_some_rows" s__law_some_rows ["ropes", "flip"]) (z : Z mg) (z_reversed : mg "reversed" = none) : DOk P w K mg base 1 "_law_some_rows" ["ropes", "flip"] dSomeRows := by
  refine def_ok D sc_law_some_rows (fun as ce Q h => ?_) (fun f cdv A outer s H E hc hr => (dss_cons (ds_setLc 2 (own := [("a", 6), ("b", 7), ("w", 5)]) (fun _ => rfl) (fun _ => sc_law_some_rows.nd) (fun _ => rfl) (fun _ => rfl) (fun _ => sw_true rfl rfl rfl (by decide +kernel)) (di_seq (K := K) (de_var 0)) (fun _ => blkOk_by (N := N_law_some_rows) (own := [("a", 6), ("b", 7), ("w", 5)]) (sc := defScope s__law_some_rows) (by decide +kernel)) (cg_tup (K := K) (n := 3) (fun _ => rfl) (cgs_cons (cg_name 6 (fun _ => sc_law_some_rows.nd) (fun _ => rfl) (fun _ => Or.inl rfl)) (cgs_cons (cg_name 7 (fun _ => sc_law_some_rows.nd) (fun _ => rfl) (fun _ => Or.inl rfl)) (cgs_cons (cg_name 5 (fun _ => sc_law_some_rows.nd) (fun _ => rfl) (fun _ => Or.inl rfl)) cgs_nil)))) dts_nil (de_if (dt_cmp (do_eq (K := K) (fun _ => hr.units)) (de_op do_mod (de_op (do_add (K := K)) (de_var 6) (de_var 1)) de_int) de_int (nomark _)) (de_tup (da_cons (de_var 7) (da_cons (de_var 6) (da_cons (de_var 5) da_nil)))) (de_tup (da_cons (de_var 6) (da_cons (de_var 7) (da_cons (de_var 5) da_nil))))))
      (dss_cons (ds_J (ds_if (dt_cmp (do_eq (K := K) (fun _ => hr.units)) (de_op do_mod (de_var 1) de_int) de_int (nomark _)) (dss_one (ds_set 2 (fun _ => sc_law_some_rows.nd) (fun _ => rfl) (fun _ => Or.inl rfl) (de_listRev (K := K) (fun _ => rfl) (fun _ => rfl) (fun _ => z.list) (fun _ => rfl) (fun _ => z_reversed) (de_var 2)))) dss_nil))
      (dss_cons (ds_J (ds_if (dt_J (dw_t (dw_and (dt_cmp do_gt (de_var 1) de_int (nomark _)) (dw_and1 (dt_cmp (do_ne (K := K) (fun _ => hr.units)) (de_var 2) (de_lst da_nil) (nomark _)))))) (dss_cons (ds_asg (de_ix (K := K) (de_var 2) de_int (fun _ _ => rfl)) (dg_tup (K := K) (n := 3) (fun _ => rfl) (dgs_cons (dg_name 3 (fun _ => sc_law_some_rows.nd) (fun _ => rfl) (fun _ => Or.inl rfl)) (dgs_cons (dg_name 4 (fun _ => sc_law_some_rows.nd) (fun _ => rfl) (fun _ => Or.inl rfl)) (dgs_cons (dg_name 5 (fun _ => sc_law_some_rows.nd) (fun _ => rfl) (fun _ => Or.inl rfl)) dgs_nil)))))
      (dss_one (ds_set 2 (fun _ => sc_law_some_rows.nd) (fun _ => rfl) (fun _ => Or.inl rfl) (de_op (do_add (K := K)) (de_op (do_add (K := K)) (de_lst (da_cons (de_tup (da_cons (de_var 3) (da_cons (de_var 4) (da_cons (de_op do_sub (de_var 5) de_int) da_nil)))) da_nil)) (de_slice (K := K) (de_var 2) (dp_some de_int) dp_none)) (de_lst (da_cons (de_tup (da_cons (de_var 4) (da_cons (de_var 3) (da_cons de_int da_nil)))) (da_cons (de_tup (da_cons (de_var 3) (da_cons (de_var 4) (da_cons de_int da_nil)))) da_nil))))))) dss_nil))
      (dss_one (ds_ret (de_var 2))))))) (fun as ce Qd h => ?_)
  · obtain ⟨n, flip, A, rfl, _⟩ := h
    rfl
  · obtain ⟨n, flip, A, rfl, rfl, rp, q⟩ := h
    have okA : ∀ t ∈ A, t.1 < t.2.1 ∧ t.2.1 < n ∧ 0 < t.2.2 := rp.net.ok
    have rw1 : Rows n A (A.map (turnA flip)) := ⟨fun t ht => by
      obtain ⟨s, hs, rfl⟩ := List.mem_map.mp ht
      obtain ⟨h1, h2, _⟩ := okA s hs
      unfold turnA arcOk
      split
      · exact ⟨h2, (by show s.1 < n; omega), by show s.2.1 ≠ s.1; omega⟩
      · exact ⟨by omega, h2, by omega⟩, by rw [List.length_map]; omega, fun p => wOf_turn (turnA_ok flip) p A⟩
    have pos1 : ∀ t ∈ A.map (turnA flip), 0 < t.2.2 := fun t ht => by
      obtain ⟨s, hs, rfl⟩ := List.mem_map.mp ht
      rw [(turnA_ok flip s).2]
      exact (okA s hs).2.2
    refine ⟨_, rfl, ?_⟩
    refine comp_map (fun t => arcT (turnA flip t)) (by have := rp.few; omega) trivial (fun t ht R hR => ?_) ?_
    · refine ⟨rfl, ?_⟩
      refine ⟨(by show (0 : Int) < 3; decide), ?_⟩
      have e : (((t.1 : Int) + (flip : Int)) % 3 = 0) ↔ (t.1 + flip) % 3 = 0 := by omega
      refine ite2 (fun h => ?_) (fun h => ?_)
      · refine ⟨rfl, ?_⟩
        have h := e.mp (of_decide_eq_true h)
        unfold turnA at hR
        rw [if_pos h] at hR
        exact hR
      · refine ⟨rfl, ?_⟩
        have h : ¬ (t.1 + flip) % 3 = 0 := fun z => h (decide_eq_true (e.mpr z))
        unfold turnA at hR
        rw [if_neg h] at hR
        exact hR
    rw [show (A.map fun t => arcT (turnA flip t)) = (A.map (turnA flip)).map arcT by rw [List.map_map]; rfl]
    have len1 : (A.map (turnA flip)).length ≤ A.length := by rw [List.length_map]; exact Nat.le_refl _
    generalize A.map (turnA flip) = R1 at rw1 pos1 len1
    refine ⟨fun s => ∃ (R : List Arc) (k : Nat) (ce : List Cl), s = ⟨[some (.d (.lst (A.map arcT))), some (.d (.int flip)), some (.c k), none, none, none, none, none], ce⟩ ∧ ce[k]? = some (.own (R.map arcT)) ∧ Rows n A R ∧ R.length ≤ A.length ∧ ∀ t ∈ R, 0 < t.2.2, ?_, ?_⟩
    · refine ⟨(by show (0 : Int) < 2; decide), ?_⟩
      refine ite2 (fun h => ?_) (fun h => ?_)
      · refine ⟨_, rfl, ?_⟩
        exact ⟨R1.reverse, 1, _, rfl, by rw [List.map_reverse]; rfl, ⟨fun t ht => rw1.ok t (List.mem_reverse.mp ht), by rw [List.length_reverse]; exact rw1.len, fun p => by rw [wOf_perm (List.reverse_perm _)]; exact rw1.sums p⟩, by rw [List.length_reverse]; exact len1, fun t ht => pos1 t (List.mem_reverse.mp ht)⟩
      · exact ⟨R1, 0, _, rfl, rfl, rw1, len1, pos1⟩
    rintro s ⟨R, k, ce, rfl, hk, rw2, len2, pos2⟩
    obtain ⟨sl0, hsl⟩ : ∃ sl0, sl0 = [some (Rf.d (.lst (A.map arcT))), some (.d (.int flip)), some (.c k), none, none, none, none, none] := ⟨_, rfl⟩
    refine ⟨fun s => ∃ (R : List Arc) (k : Nat) (sl : List (Option Rf)) (ce : List Cl), s = ⟨sl, ce⟩ ∧ sl[2]? = some (some (.c k)) ∧ ce[k]? = some (.own (R.map arcT)) ∧ Rows n A R, ?_, ?_⟩
    · refine ⟨fun b ce' => (∃ x, ce' = ce ++ x) ∧ (b = true → R ≠ []), ?_, ?_⟩
      · refine ite2 (fun h => ?_) (fun h => ⟨⟨[], (List.append_nil _).symm⟩, fun z => nomatch z⟩)
        refine ⟨rfl, ?_⟩
        refine ⟨_, _, tree_own (own_pre hk), tree_end, ?_, rfl, ?_⟩
        · exact List.all_eq_true.mpr fun d hd => by
            obtain ⟨t, _, rfl⟩ := List.mem_map.mp hd
            exact pl_arc _ t
        · refine ⟨⟨_, rfl⟩, fun z e => ?_⟩
          subst e
          have z : (!decide (Dt.lst (([] : List Arc).map arcT) = Dt.lst [])) = true := z
          rw [decide_eq_true (by rfl)] at z
          cases z
      · rintro b ce' ⟨⟨x, rfl⟩, hb⟩
        refine ite2 (fun h => ?_) (fun h => ⟨R, k, _, _, rfl, rfl, own_pre hk, rw2⟩)
        cases R with
        | nil => exact absurd rfl (hb h)
        | cons r R =>
          refine ⟨_, _, _, rfl, items_own (own_pre hk), at_zero, ?_⟩
          refine ⟨rfl, ?_⟩
          refine ⟨rfl, ?_⟩
          refine ⟨rfl, ?_⟩
          refine ⟨_, lst_own (own_pre (own_pre hk)), ?_⟩
          refine ⟨_, _, lst_own (own_pre get_end), lst_end, ?_, ?_⟩
          · rw [show (1 : Int) = ((1 : Nat) : Int) from rfl, cutL_from]
            have := rw2.len
            have := rp.few
            show 1 + (R.map arcT).length ≤ 100000
            rw [List.length_map]
            have : (r :: R).length = R.length + 1 := rfl
            omega
          refine ⟨rfl, ?_⟩
          refine ⟨rfl, ?_⟩
          refine ⟨rfl, ?_⟩
          have c1 : cutL ((r :: R).map arcT) (some 1) none = R.map arcT := by
            rw [show (1 : Int) = ((1 : Nat) : Int) from rfl, cutL_from]
            rfl
          have l1 := rw2.len
          have l2 := rp.few
          have l3 : (r :: R).length = R.length + 1 := rfl
          refine ⟨_, _, lst_own (own_pre get_end), lst_end, ?_, ?_⟩
          · rw [c1, List.length_append, List.length_map]
            show 1 + R.length + 2 ≤ 100000
            omega
          have r0 := pos2 r List.mem_cons_self
          have er : [Dt.tup [.int r.1, .int r.2.1, .int ((r.2.2 : Int) - 1)]] ++ cutL ((r :: R).map arcT) (some 1) none ++ [.tup [.int r.2.1, .int r.1, .int 1], .tup [.int r.1, .int r.2.1, .int 0]] = ((r.1, r.2.1, r.2.2 - 1) :: R ++ [(r.2.1, r.1, 1), (r.1, r.2.1, 0)]).map arcT := by
            rw [c1, show ((r.2.2 : Int) - 1) = ((r.2.2 - 1 : Nat) : Int) by omega, List.map_append]
            rfl
          have ok0 := rw2.ok r List.mem_cons_self
          refine ⟨(r.1, r.2.1, r.2.2 - 1) :: R ++ [(r.2.1, r.1, 1), (r.1, r.2.1, 0)], _, _, _, rfl, rfl, by rw [← er]; exact get_end, ⟨fun t ht => ?_, ?_, fun p => ?_⟩⟩
          · rcases List.mem_append.mp ht with h | h
            · rcases List.mem_cons.mp h with h | h
              · rw [h]; exact ok0
              · exact rw2.ok t (List.mem_cons_of_mem _ h)
            · rcases List.mem_cons.mp h with h | h
              · rw [h]; exact ⟨ok0.2.1, ok0.1, fun e => ok0.2.2 e.symm⟩
              · rw [List.mem_singleton.mp h]; exact ok0
          · rw [List.length_append, List.length_cons]
            show R.length + 1 + 2 ≤ A.length + 2
            omega
          · rw [← rw2.sums p, wOf_app2, wOf_cons, wOf_cons, wOf_cons, wOf_cons, endsA_swap r.2.1 r.1 1 0, show endsA (r.1, r.2.1, r.2.2 - 1) = endsA r from rfl, show endsA (r.1, r.2.1, 0) = endsA r from rfl]
            show _ + _ + (_ + (_ + 0)) = _
            by_cases c : endsA r = p
            · simp only [if_pos c]
              omega
            · simp only [if_neg c]
              omega
    · rintro s ⟨R, k, sl, ce, rfl, h2, hk, rw3⟩
      exact var_at h2 (ret_own hk (q R rw3))
end
end TD
set_option Elab.async false
set_option linter.all false
set_option maxRecDepth 100000
set_option maxHeartbeats 1000000
/-! sums of all sides -/
namespace TD
open PySem PySem.Spec PyProof.Rows L2 TW
theorem sum_cast : ∀ l : List Nat, (l.map fun x : Nat => (x : Int)).sum = (l.sum : Nat)
  | [] => rfl
  | x :: l => by
    rw [List.map_cons, List.sum_cons, List.sum_cons, sum_cast l]
    push_cast
    rfl
def belowA (A : List Arc) (p : Nat) : List Arc := A.filter fun t => decide (t.2.1 < p)
def armsA (A : List Arc) (p : Nat) : List Arc := A.filter fun t => decide (t.2.1 = p)
def sumW (X : List Arc) : Nat := (X.map fun t => t.2.2).sum
def heldA (X : List Arc) (m : Nat) : Nat := sumW (X.filter fun t => m.testBit t.1)
theorem cut_next (p : Nat) (f : Nat → Bool) : ∀ A : List Arc, cutA (belowA A (p + 1)) f = cutA (belowA A p) f + cutA (armsA A p) f
  | [] => rfl
  | t :: A => by
    have ih := cut_next p f A
    unfold belowA armsA at ih ⊢
    rw [List.filter_cons, List.filter_cons, List.filter_cons]
    by_cases h1 : t.2.1 < p
    · rw [if_pos (decide_eq_true (by omega)), if_pos (decide_eq_true h1), if_neg (by rw [decide_eq_true_iff]; omega), cutA_cons, cutA_cons, ih]
      omega
    · by_cases h2 : t.2.1 = p
      · rw [if_pos (decide_eq_true (by omega)), if_neg (by rw [decide_eq_true_iff]; omega), if_pos (decide_eq_true h2), cutA_cons, cutA_cons, ih]
        omega
      · rw [if_neg (by rw [decide_eq_true_iff]; omega), if_neg (by rw [decide_eq_true_iff]; omega), if_neg (by rw [decide_eq_true_iff]; omega), ih]
theorem cut_arm0 {f : Nat → Bool} {p m : Nat} (h0 : f p = false) : ∀ {X : List Arc}, (∀ t ∈ X, t.2.1 = p ∧ f t.1 = m.testBit t.1) → cutA X f = heldA X m
  | [], _ => rfl
  | t :: X, h => by
    obtain ⟨h1, h2⟩ := h t List.mem_cons_self
    have ih := cut_arm0 (m := m) h0 (X := X) fun s hs => h s (List.mem_cons_of_mem _ hs)
    unfold heldA sumW at ih ⊢
    rw [cutA_cons, ih, h1, h0, h2, List.filter_cons]
    cases m.testBit t.1 with
    | true => rfl
    | false =>
      show 0 + _ = _
      rw [Nat.zero_add]
      rfl
theorem cut_arm1 {f : Nat → Bool} {p m : Nat} (h0 : f p = true) : ∀ {X : List Arc}, (∀ t ∈ X, t.2.1 = p ∧ f t.1 = m.testBit t.1) → cutA X f + heldA X m = sumW X
  | [], _ => rfl
  | t :: X, h => by
    obtain ⟨h1, h2⟩ := h t List.mem_cons_self
    have ih := cut_arm1 (m := m) h0 (X := X) fun s hs => h s (List.mem_cons_of_mem _ hs)
    unfold heldA sumW at ih ⊢
    rw [cutA_cons, h1, h0, h2, List.filter_cons, List.map_cons, List.sum_cons]
    cases m.testBit t.1 with
    | true =>
      show 0 + _ + (((t :: _).map _).sum) = _
      rw [List.map_cons, List.sum_cons]
      omega
    | false =>
      show t.2.2 + _ + ((X.filter fun t => m.testBit t.1).map _).sum = _
      omega
theorem cut_next0 {A : List Arc} (okA : ∀ t ∈ A, t.1 < t.2.1) {p m : Nat} (hm : m < 2 ^ p) : cutA (belowA A (p + 1)) m.testBit = cutA (belowA A p) m.testBit + heldA (armsA A p) m := by
  rw [cut_next, cut_arm0 (m := m) (X := armsA A p) (Nat.testBit_lt_two_pow hm) fun t ht => ⟨of_decide_eq_true (List.mem_filter.mp ht).2, rfl⟩]
theorem cut_next1 {A : List Arc} (okA : ∀ t ∈ A, t.1 < t.2.1) {p m : Nat} (hm : m < 2 ^ p) : ((cutA (belowA A (p + 1)) (2 ^ p + m).testBit : Nat) : Int) = cutA (belowA A p) m.testBit + sumW (armsA A p) - heldA (armsA A p) m := by
  have low : ∀ k, k < p → (2 ^ p + m).testBit k = m.testBit k := fun k hk => Nat.testBit_two_pow_add_gt hk m
  have top : (2 ^ p + m).testBit p = true := by rw [Nat.testBit_two_pow_add_eq, Nat.testBit_lt_two_pow hm]; rfl
  have arm := cut_arm1 (m := m) (f := (2 ^ p + m).testBit) top (X := armsA A p) fun t ht => by
    obtain ⟨h1, h2⟩ := List.mem_filter.mp ht
    have h2 := of_decide_eq_true h2
    have := okA t h1
    exact ⟨h2, low _ (by omega)⟩
  have b : cutA (belowA A p) (2 ^ p + m).testBit = cutA (belowA A p) m.testBit := by
    unfold cutA
    congr 2
    refine List.filter_congr fun t ht => ?_
    obtain ⟨h1, h2⟩ := List.mem_filter.mp ht
    have h2 := of_decide_eq_true h2
    have := okA t h1
    rw [low _ (by omega), low _ h2]
  rw [cut_next, b]
  omega
def sumsP (A : List Arc) (p : Nat) : List Dt := (List.range (2 ^ p)).map fun m => Dt.int (cutA (belowA A p) m.testBit)
theorem sumsP_next {A : List Arc} (okA : ∀ t ∈ A, t.1 < t.2.1) (p : Nat) : ((List.range (2 ^ p)).map fun m => Dt.int (((cutA (belowA A p) m.testBit : Nat) : Int) + (heldA (armsA A p) m : Nat))) ++ ((List.range (2 ^ p)).map fun m => Dt.int (((cutA (belowA A p) m.testBit : Nat) : Int) + (sumW (armsA A p) : Nat) - (heldA (armsA A p) m : Nat))) = sumsP A (p + 1) := by
  unfold sumsP
  rw [Nat.pow_succ, Nat.mul_two, List.range_add, List.map_append, List.map_map]
  congr 1
  · refine List.map_congr_left fun m hm => ?_
    rw [cut_next0 okA (List.mem_range.mp hm)]
    push_cast
    rfl
  · refine List.map_congr_left fun m hm => ?_
    show _ = Dt.int _
    rw [cut_next1 okA (List.mem_range.mp hm)]
theorem sumsP_len (A : List Arc) (p : Nat) : (sumsP A p).length = 2 ^ p := by
  unfold sumsP
  rw [List.length_map, List.length_range]
theorem sumsP_at {A : List Arc} {p k : Nat} (h : k < 2 ^ p) : atI (sumsP A p) (k : Int) = some (.int (cutA (belowA A p) k.testBit)) := at_nat (by
  unfold sumsP
  rw [List.getElem?_map, List.getElem?_range h]
  rfl)
section
variable {P : Program} {w : World} {K : PySem.W.Frag} {mg : Str → Option Value} {base : Heap}
abbrev N_law_sums : List Str := ["size", "ropes", "sums", "p", "arms", "whole", "held", "without", "a", "b", "w", "mask", "k"]
theorem sc_law_sums : FnScope N_law_sums ["size", "ropes"] (defScope s__law_sums) := ⟨rfl, rfl, rfl, by decide +kernel, rfl, by decide +kernel, by decide +kernel⟩
/-- the cut of each side -/
def sumsT (n : Nat) (A : List Arc) : List Dt := (List.range (2 ^ n)).map fun m => Dt.int (cutA A m.testBit)
def dSums : XF := fun as ce Q => ∃ (n : Nat) (A : List Arc), as = [.d (.int n), .d (.lst (A.map arcT))] ∧ ce = [] ∧ Ropes n A ∧ n ≤ 9 ∧ Q (.c 0) [.own (sumsT n A)]
theorem d_sums (D : Dfn K mg "_law_sums" s__law_sums ["size", "ropes"]) (z : Z mg) (z_sum : mg "sum" = none) : DOk P w K mg base 1 "_law_sums" ["size", "ropes"] dSums := by
  refine def_ok D sc_law_sums (fun as ce Q h => ?_) (fun f cdv A outer s H E hc hr => (dss_cons (ds_set 2 (fun _ => sc_law_sums.nd) (fun _ => rfl) (fun _ => Or.inr rfl) (de_lst (da_cons de_int da_nil)))
      (dss_cons (ds_for (fun _ => PassesOwn.never) (fun _ => rfl) (di_rng1 (fun _ => rfl) (fun _ => z.range) (da_cons (de_var 0) da_nil)) (dg_name 3 (fun _ => sc_law_sums.nd) (fun _ => rfl) (fun _ => Or.inr rfl))
        (dss_cons (ds_set 4 (fun _ => sc_law_sums.nd) (fun _ => rfl) (fun _ => Or.inr rfl) (de_lc (own := [("a", 8), ("b", 9), ("w", 10)]) (fun _ => rfl) (fun _ => sc_law_sums.nd) (di_seq (K := K) (de_var 1)) (fun _ => blkOk_by (N := N_law_sums) (own := [("a", 8), ("b", 9), ("w", 10)]) (sc := defScope s__law_sums) (by decide +kernel)) (cg_tup (K := K) (n := 3) (fun _ => rfl) (cgs_cons (cg_name 8 (fun _ => sc_law_sums.nd) (fun _ => rfl) (fun _ => Or.inl rfl)) (cgs_cons (cg_name 9 (fun _ => sc_law_sums.nd) (fun _ => rfl) (fun _ => Or.inl rfl)) (cgs_cons (cg_name 10 (fun _ => sc_law_sums.nd) (fun _ => rfl) (fun _ => Or.inl rfl)) cgs_nil)))) (dts_one (dt_cmp (do_eq (K := K) (fun _ => hr.units)) (de_var 9) (de_var 3) (nomark _))) (de_tup (da_cons (de_var 8) (da_cons (de_var 10) da_nil)))))
      (dss_cons (ds_set 5 (fun _ => sc_law_sums.nd) (fun _ => rfl) (fun _ => Or.inr rfl) (de_callB (dc_sum (K := K)) (fun _ => rfl) (fun _ => z_sum) (by decide +kernel) (da_cons (de_lc (own := [("a", 8), ("w", 10)]) (fun _ => rfl) (fun _ => sc_law_sums.nd) (di_seq (K := K) (de_var 4)) (fun _ => blkOk_by (N := N_law_sums) (own := [("a", 8), ("w", 10)]) (sc := defScope s__law_sums) (by decide +kernel)) (cg_tup (K := K) (n := 2) (fun _ => rfl) (cgs_cons (cg_name 8 (fun _ => sc_law_sums.nd) (fun _ => rfl) (fun _ => Or.inl rfl)) (cgs_cons (cg_name 10 (fun _ => sc_law_sums.nd) (fun _ => rfl) (fun _ => Or.inl rfl)) cgs_nil))) dts_nil (de_var 10)) da_nil)))
      (dss_cons (ds_set 6 (fun _ => sc_law_sums.nd) (fun _ => rfl) (fun _ => Or.inr rfl) (de_lc (own := [("mask", 11)]) (fun _ => rfl) (fun _ => sc_law_sums.nd) (di_rng1 (fun _ => rfl) (fun _ => z.range) (da_cons (de_callB (dc_len (K := K)) (fun _ => rfl) (fun _ => z.len) (by decide +kernel) (da_cons (de_var 2) da_nil)) da_nil)) (fun _ => blkOk_by (N := N_law_sums) (own := [("mask", 11)]) (sc := defScope s__law_sums) (by decide +kernel)) (cg_name 11 (fun _ => sc_law_sums.nd) (fun _ => rfl) (fun _ => Or.inr rfl)) dts_nil (de_callB (dc_sum (K := K)) (fun _ => rfl) (fun _ => z_sum) (by decide +kernel) (da_cons (de_lc (own := [("a", 8), ("w", 10)]) (fun _ => rfl) (fun _ => sc_law_sums.nd) (di_seq (K := K) (de_var 4)) (fun _ => blkOk_by (N := N_law_sums) (own := [("a", 8), ("w", 10)]) (by kernel_rfl)) (cg_tup (K := K) (n := 2) (fun _ => rfl) (cgs_cons (cg_name 8 (fun _ => sc_law_sums.nd) (fun _ => rfl) (fun _ => Or.inl rfl)) (cgs_cons (cg_name 10 (fun _ => sc_law_sums.nd) (fun _ => rfl) (fun _ => Or.inl rfl)) cgs_nil))) (dts_one (dt_cmp (do_eq (K := K) (fun _ => hr.units)) (de_op do_and (de_op do_shr (de_var 11) (de_var 8)) de_int) de_int (nomark _))) (de_var 10)) da_nil))))
      (dss_cons (ds_setLc 7 (own := [("k", 12)]) (fun _ => rfl) (fun _ => sc_law_sums.nd) (fun _ => rfl) (fun _ => rfl) (fun _ => sw_true rfl rfl rfl (by decide +kernel)) (di_rng1 (fun _ => rfl) (fun _ => z.range) (da_cons (de_callB (dc_len (K := K)) (fun _ => rfl) (fun _ => z.len) (by decide +kernel) (da_cons (de_var 2) da_nil)) da_nil)) (fun _ => blkOk_by (N := N_law_sums) (own := [("k", 12)]) (sc := defScope s__law_sums) (by decide +kernel)) (cg_name 12 (fun _ => sc_law_sums.nd) (fun _ => rfl) (fun _ => Or.inl rfl)) dts_nil (de_op (do_add (K := K)) (de_ix (K := K) (de_var 2) (de_var 12) (fun _ _ => rfl)) (de_ix (K := K) (de_var 6) (de_var 12) (fun _ _ => rfl))))
      (dss_one (ds_set 2 (fun _ => sc_law_sums.nd) (fun _ => rfl) (fun _ => Or.inr rfl) (de_op (do_add (K := K)) (de_var 7) (de_lc (own := [("k", 12)]) (fun _ => rfl) (fun _ => sc_law_sums.nd) (di_rng1 (fun _ => rfl) (fun _ => z.range) (da_cons (de_callB (dc_len (K := K)) (fun _ => rfl) (fun _ => z.len) (by decide +kernel) (da_cons (de_var 2) da_nil)) da_nil)) (fun _ => blkOk_by (N := N_law_sums) (own := [("k", 12)]) (sc := defScope s__law_sums) (by decide +kernel)) (cg_name 12 (fun _ => sc_law_sums.nd) (fun _ => rfl) (fun _ => Or.inl rfl)) dts_nil (de_op do_sub (de_op (do_add (K := K)) (de_ix (K := K) (de_var 2) (de_var 12) (fun _ _ => rfl)) (de_var 5)) (de_ix (K := K) (de_var 6) (de_var 12) (fun _ _ => rfl))))))))))))
      (dss_one (ds_ret (de_var 2)))))) (fun as ce Qd h => ?_)
  · obtain ⟨n, A, rfl, _⟩ := h
    rfl
  · obtain ⟨n, A, rfl, rfl, rp, hn, q⟩ := h
    have okA : ∀ t ∈ A, t.1 < t.2.1 := fun t ht => (rp.net.ok t ht).1
    refine ⟨rfl, ?_⟩
    refine ⟨⟨by omega, by omega⟩, ?_⟩
    refine for_rng (fun p s => ∃ (k : Nat) (ce : List Cl) (v3 v4 v5 v6 v7 : Option Rf), s = ⟨[some (.d (.int n)), some (.d (.lst (A.map arcT))), some (.c k), v3, v4, v5, v6, v7, none, none, none, none, none], ce⟩ ∧ ce[k]? = some (.own (sumsP A p))) ⟨0, _, none, none, none, none, none, rfl, ?_⟩ ?_ ?_
    · show some (Cl.own [Dt.int 0]) = some (Cl.own (sumsP A 0))
      have : sumsP A 0 = [Dt.int (cutA (belowA A 0) (0 : Nat).testBit : Nat)] := rfl
      rw [this, show belowA A 0 = [] from List.filter_eq_nil_iff.mpr fun t _ => by rw [decide_eq_true_iff]; omega]
      rfl
    · rintro p s hp ⟨k, ce, v3, v4, v5, v6, v7, rfl, hk⟩
      have pw : 2 ^ p ≤ 256 := Nat.pow_le_pow_right (n := 2) (by decide) (show p ≤ 8 by omega)
      refine ⟨_, rfl, ?_⟩
      refine comp_filt (fun t => decide (t.2.1 = p)) (fun t => .tup [.int t.1, .int t.2.2]) (by have := rp.few; omega) trivial (fun t ht R N h1 h0 => ?_) ?_
      · refine ⟨rfl, ?_⟩
        have e : decide (((t.2.1 : Nat) : Int) = ((p : Nat) : Int)) = decide (t.2.1 = p) := by rw [decide_eq_decide]; omega
        show if decide (((t.2.1 : Nat) : Int) = ((p : Nat) : Int)) = true then _ else _
        rw [e]
        exact ite2 (fun h => ⟨rfl, h1 h⟩) (fun h => h0 (by simpa using h))
      have la : (armsA A p).length ≤ 81 := Nat.le_trans (List.length_filter_le _ _) rp.few
      have arm1 : (ce ++ [Cl.own (((armsA A p)).map fun t => Dt.tup [.int t.1, .int t.2.2])])[ce.length]? = some (.own ((armsA A p).map fun t => Dt.tup [.int t.1, .int t.2.2])) := get_end
      have hk1 := own_pre (x := [Cl.own (((armsA A p)).map fun t => Dt.tup [.int t.1, .int t.2.2])]) hk
      show nameD 4 (.c ce.length) ⟨[some (.d (.int n)), some (.d (.lst (A.map arcT))), some (.c k), some (.d (.int (p : Nat))), v4, v5, v6, v7, none, none, none, none, none], ce ++ [Cl.own ((armsA A p).map fun t => Dt.tup [.int t.1, .int t.2.2])]⟩ _
      generalize ce ++ [Cl.own (((armsA A p)).map fun t => Dt.tup [.int t.1, .int t.2.2])] = ce1 at arm1 hk1 ⊢
      generalize ce.length = ia at arm1 ⊢
      obtain ⟨X, eX⟩ : ∃ X, X = armsA A p := ⟨_, rfl⟩
      rw [← eX] at la arm1
      have lk : ∀ {c : List Cl} {i : Nat} {x : Cl}, c[i]? = some x → i < c.length := fun h => (List.getElem?_eq_some_iff.mp h).1
      refine ⟨_, items_own arm1, lk arm1, ?_⟩
      refine comp_map (fun t => .int t.2.2) (by omega) (items_own arm1) (fun t ht R hR => ⟨rfl, hR⟩) ?_
      refine ⟨X.map fun t => ((t.2.2 : Nat) : Int), by rw [lst_end, List.map_map]; rfl, ?_⟩
      have hk2 := own_pre (x := [Cl.own (X.map fun t => Dt.int t.2.2)]) hk1
      have arm2 := own_pre (x := [Cl.own (X.map fun t => Dt.int t.2.2)]) arm1
      have ew : (X.map fun t => ((t.2.2 : Nat) : Int)).sum = (sumW X : Nat) := by
        unfold sumW
        rw [← sum_cast, List.map_map]
        rfl
      rw [ew]
      show nameD 5 (.d (.int (sumW X : Nat))) ⟨[some (.d (.int n)), some (.d (.lst (A.map arcT))), some (.c k), some (.d (.int (p : Nat))), some (.c ia), v5, v6, v7, none, none, none, none, none], ce1 ++ [Cl.own (X.map fun t => Dt.int t.2.2)]⟩ _
      generalize ce1 ++ [Cl.own (X.map fun t => Dt.int t.2.2)] = ce2 at arm2 hk2 ⊢
      refine ⟨_, items_own hk2, ?_⟩
      rw [sumsP_len]
      refine ⟨rg_small (by omega), ?_⟩
      refine comp_rngE (fun m => .int (heldA X m : Nat)) (by omega) (fun m hm R hR => ?_) ?_
      · refine ⟨_, items_own arm2, lk arm2, ?_⟩
        refine comp_filt (fun t => m.testBit t.1) (fun t => .int t.2.2) (by omega) (items_own arm2) (fun t ht R N h1 h0 => ⟨rfl, ⟨by show (0 : Int) ≤ (t.1 : Int); omega, ?_⟩⟩) ?_
        · show if decide (Builtin.bitAnd ((m : Int) / 2 ^ ((t.1 : Int)).toNat) 1 = 1) = true then _ else _
          rw [bit1]
          exact ite2 (fun h => h1 h) (fun h => h0 (by simpa using h))
        · refine ⟨(X.filter fun t => m.testBit t.1).map fun t => ((t.2.2 : Nat) : Int), by rw [lst_end, List.map_map]; rfl, ?_⟩
          rw [show ((X.filter fun t => m.testBit t.1).map fun t => ((t.2.2 : Nat) : Int)).sum = (heldA X m : Nat) by
            unfold heldA sumW
            rw [← sum_cast, List.map_map]
            rfl]
          exact hR _
      have hk3 := own_pre (x := [Cl.own ((List.range (2 ^ p)).map fun m => Dt.int (heldA X m : Nat))]) hk2
      have held3 : (ce2 ++ [Cl.own ((List.range (2 ^ p)).map fun m => Dt.int (heldA X m : Nat))])[ce2.length]? = _ := get_end
      show nameD 6 (.c ce2.length) ⟨[some (.d (.int n)), some (.d (.lst (A.map arcT))), some (.c k), some (.d (.int (p : Nat))), some (.c ia), some (.d (.int (sumW X : Nat))), v6, v7, none, none, none, none, none], ce2 ++ [Cl.own ((List.range (2 ^ p)).map fun m => Dt.int (heldA X m : Nat))]⟩ _
      generalize ce2 ++ [Cl.own ((List.range (2 ^ p)).map fun m => Dt.int (heldA X m : Nat))] = ce3 at held3 hk3 ⊢
      generalize ce2.length = ih at held3 ⊢
      have hat : ∀ {m : Nat}, m < 2 ^ p → atI ((List.range (2 ^ p)).map fun m => Dt.int (heldA X m : Nat)) (m : Int) = some (.int (heldA X m : Nat)) := fun {m} hm => at_nat (by rw [List.getElem?_map, List.getElem?_range hm]; rfl)
      refine ⟨_, items_own hk3, ?_⟩
      rw [sumsP_len]
      refine ⟨rg_small (by omega), ?_⟩
      refine comp_rng (fun m => .int (((cutA (belowA A p) m.testBit : Nat) : Int) + (heldA X m : Nat))) (by omega) (fun m hm R hR => ?_) ?_
      · exact ⟨_, _, _, rfl, items_own hk3, sumsP_at hm, _, _, _, rfl, items_own held3, hat hm, hR⟩
      have hk4 := own_pre (x := [Cl.own ((List.range (2 ^ p)).map fun m => Dt.int (((cutA (belowA A p) m.testBit : Nat) : Int) + (heldA X m : Nat)))]) hk3
      have held4 := own_pre (x := [Cl.own ((List.range (2 ^ p)).map fun m => Dt.int (((cutA (belowA A p) m.testBit : Nat) : Int) + (heldA X m : Nat)))]) held3
      have w4 : (ce3 ++ [Cl.own ((List.range (2 ^ p)).map fun m => Dt.int (((cutA (belowA A p) m.testBit : Nat) : Int) + (heldA X m : Nat)))])[ce3.length]? = _ := get_end
      show nameD 7 (.c ce3.length) ⟨[some (.d (.int n)), some (.d (.lst (A.map arcT))), some (.c k), some (.d (.int (p : Nat))), some (.c ia), some (.d (.int (sumW X : Nat))), some (.c ih), v7, none, none, none, none, none], ce3 ++ [Cl.own ((List.range (2 ^ p)).map fun m => Dt.int (((cutA (belowA A p) m.testBit : Nat) : Int) + (heldA X m : Nat)))]⟩ _
      generalize ce3 ++ [Cl.own ((List.range (2 ^ p)).map fun m => Dt.int (((cutA (belowA A p) m.testBit : Nat) : Int) + (heldA X m : Nat)))] = ce4 at hk4 held4 w4 ⊢
      generalize ce3.length = iw at w4 ⊢
      refine ⟨_, items_own hk4, ?_⟩
      rw [sumsP_len]
      refine ⟨rg_small (by omega), ?_⟩
      refine comp_rng (fun m => .int (((cutA (belowA A p) m.testBit : Nat) : Int) + (sumW X : Nat) - (heldA X m : Nat))) (by omega) (fun m hm R hR => ?_) ?_
      · exact ⟨_, _, _, rfl, items_own hk4, sumsP_at hm, _, _, _, rfl, items_own held4, hat hm, hR⟩
      refine ⟨_, _, lst_own (own_pre w4), lst_end, ?_, ?_⟩
      · rw [List.length_map, List.length_map, List.length_range]
        omega
      refine .inl ⟨_, _, _, _, _, _, _, rfl, ?_⟩
      rw [eX, sumsP_next okA]
      exact get_end
    · rintro s ⟨k, ce, v3, v4, v5, v6, v7, rfl, hk⟩
      refine ret_own hk ?_
      have : sumsP A n = sumsT n A := by
        unfold sumsP sumsT
        rw [show belowA A n = A from List.filter_eq_self.mpr fun t ht => decide_eq_true (rp.net.ok t ht).2.1]
      rw [this]
      exact q
end
end TD
set_option Elab.async false
set_option linter.all false
set_option maxRecDepth 100000
set_option maxHeartbeats 1000000
/-! lows, pins -/
namespace TD
open PySem PySem.Spec PyProof.Rows L2 TW
section
variable {P : Program} {w : World} {K : PySem.W.Frag} {mg : Str → Option Value} {base : Heap}
theorem and_top {a b p : Nat} (ha : a < 2 ^ p) (hb : b < 2 ^ p) (h : a &&& b = 0) : (2 ^ p + a) &&& b = 0 := by
  refine Nat.eq_of_testBit_eq fun i => ?_
  rw [Nat.testBit_and, Nat.zero_testBit]
  by_cases c : i < p
  · rw [Nat.testBit_two_pow_add_gt c, ← Nat.testBit_and, h, Nat.zero_testBit]
  · rw [Nat.testBit_lt_two_pow (x := b) (Nat.lt_of_lt_of_le hb (Nat.pow_le_pow_right (by decide) (by omega))), Bool.and_false]
/-- it goes between -/
def goesB (a b m : Nat) : Bool := decide (m &&& a = a) && decide (m &&& b = 0)
abbrev N_law_lows : List Str := ["sums", "pins", "going", "low", "mask"]
theorem sc_law_lows : FnScope N_law_lows ["sums", "pins"] (defScope s__law_lows) := ⟨rfl, rfl, rfl, by decide +kernel, rfl, by decide +kernel, by decide +kernel⟩
def dLows : XF := fun as ce Q => ∃ (N a b : Nat) (f : Nat → Nat), as = [.d (.lst ((List.range N).map fun m => Dt.int (f m))), .d (.tup [.int a, .int b])] ∧ ce = [] ∧ N ≤ 1000 ∧ (∃ m, m < N ∧ goesB a b m = true) ∧
  ∀ low : Nat, (∃ m, m < N ∧ goesB a b m = true ∧ f m = low) → (∀ m, m < N → goesB a b m = true → low ≤ f m) → Q (.d (.tup [.int low, .lst (natT ((List.range N).filter fun m => goesB a b m && decide (f m = low)))])) []
theorem d_lows (D : Dfn K mg "_law_lows" s__law_lows ["sums", "pins"]) (z : Z mg) (z_min : mg "min" = none) : DOk P w K mg base 1 "_law_lows" ["sums", "pins"] dLows := by
  refine def_ok D sc_law_lows (fun as ce Q h => ?_) (fun f cdv A outer s H E hc hr => (dss_cons (ds_setLc 2 (own := [("mask", 4)]) (fun _ => rfl) (fun _ => sc_law_lows.nd) (fun _ => rfl) (fun _ => rfl) (fun _ => sw_true rfl rfl rfl (by decide +kernel)) (di_rng1 (fun _ => rfl) (fun _ => z.range) (da_cons (de_callB (dc_len (K := K)) (fun _ => rfl) (fun _ => z.len) (by decide +kernel) (da_cons (de_var 0) da_nil)) da_nil)) (fun _ => blkOk_by (N := N_law_lows) (own := [("mask", 4)]) (sc := defScope s__law_lows) (by decide +kernel)) (cg_name 4 (fun _ => sc_law_lows.nd) (fun _ => rfl) (fun _ => Or.inl rfl)) (dts_one (dt_J (dw_t (dw_and (dt_cmp (do_eq (K := K) (fun _ => hr.units)) (de_op do_and (de_var 4) (de_ix (K := K) (de_var 1) de_int (fun _ _ => rfl))) (de_ix (K := K) (de_var 1) de_int (fun _ _ => rfl)) (nomark _)) (dw_and1 (dt_cmp (do_eq (K := K) (fun _ => hr.units)) (de_op do_and (de_var 4) (de_ix (K := K) (de_var 1) de_int (fun _ _ => rfl))) de_int (nomark _))))))) (de_var 4))
      (dss_cons (ds_set 3 (fun _ => sc_law_lows.nd) (fun _ => rfl) (fun _ => Or.inr rfl) (de_callB (dc_min (K := K)) (fun _ => rfl) (fun _ => z_min) (by decide +kernel) (da_cons (de_lc (own := [("mask", 4)]) (fun _ => rfl) (fun _ => sc_law_lows.nd) (di_seq (K := K) (de_var 2)) (fun _ => blkOk_by (N := N_law_lows) (own := [("mask", 4)]) (sc := defScope s__law_lows) (by decide +kernel)) (cg_name 4 (fun _ => sc_law_lows.nd) (fun _ => rfl) (fun _ => Or.inl rfl)) dts_nil (de_ix (K := K) (de_var 0) (de_var 4) (fun _ _ => rfl))) da_nil)))
      (dss_one (ds_ret (de_tup (da_cons (de_var 3) (da_cons (de_lc (own := [("mask", 4)]) (fun _ => rfl) (fun _ => sc_law_lows.nd) (di_seq (K := K) (de_var 2)) (fun _ => blkOk_by (N := N_law_lows) (own := [("mask", 4)]) (sc := defScope s__law_lows) (by decide +kernel)) (cg_name 4 (fun _ => sc_law_lows.nd) (fun _ => rfl) (fun _ => Or.inl rfl)) (dts_one (dt_cmp (do_eq (K := K) (fun _ => hr.units)) (de_ix (K := K) (de_var 0) (de_var 4) (fun _ _ => rfl)) (de_var 3) (nomark _))) (de_var 4)) da_nil)))))))) (fun as ce Qd h => ?_)
  · obtain ⟨N, a, b, f, rfl, _⟩ := h
    rfl
  · obtain ⟨N, a, b, f, rfl, rfl, hN, hg, q⟩ := h
    refine ⟨_, rfl, ?_⟩
    rw [List.length_map, List.length_range]
    refine ⟨rg_small (by omega), ?_⟩
    refine comp_rngF (goesB a b) (fun m => .int m) (by omega) (fun m hm R N h1 h0 => ?_) ?_
    · refine ⟨fun t ce => t = goesB a b m ∧ ce = [], ?_, ?_⟩
      · refine ⟨_, _, _, rfl, rfl, at_zero, ?_⟩
        refine ⟨_, _, _, rfl, rfl, at_zero, ?_⟩
        have e1 : (Builtin.bitAnd (m : Int) (a : Int) = (a : Int)) ↔ m &&& a = a := by rw [bandN]; omega
        have e2 : (Builtin.bitAnd (m : Int) (b : Int) = 0) ↔ m &&& b = 0 := by rw [bandN]; omega
        refine ite2 (fun h => ?_) (fun h => ?_)
        · refine ⟨_, _, _, rfl, rfl, at_nat (i := 1) rfl, ?_⟩
          refine ⟨?_, rfl⟩
          show decide (Builtin.bitAnd (m : Int) (b : Int) = 0) = _
          unfold goesB
          rw [decide_eq_true (e1.mp (of_decide_eq_true h)), Bool.true_and, decide_eq_decide]
          exact e2
        · refine ⟨?_, rfl⟩
          unfold goesB
          rw [decide_eq_false (fun z => h (decide_eq_true (e1.mpr z)))]
          rfl
      · rintro t ce ⟨rfl, rfl⟩
        exact ite2 (fun h => h1 h) (fun h => h0 (by simpa using h))
    refine ⟨_, rfl, Nat.zero_lt_one, ?_⟩
    refine comp_map (xs := (List.range N).filter (goesB a b)) (fun m => .int (f m)) (by have := List.length_filter_le (goesB a b) (List.range N); rw [List.length_range] at this; omega) rfl (fun m hm R hR => ?_) ?_
    · have hm := List.mem_range.mp (List.mem_filter.mp hm).1
      exact ⟨_, _, _, rfl, rfl, at_nat (by rw [List.getElem?_map, List.getElem?_range hm]; rfl), hR⟩
    refine ⟨((List.range N).filter (goesB a b)).map fun m => ((f m : Nat) : Int), by rw [List.map_map]; rfl, ?_, fun low hl hle => ?_⟩
    · obtain ⟨m, hm, g⟩ := hg
      rw [List.length_map]
      exact List.length_pos_of_mem (List.mem_filter.mpr ⟨List.mem_range.mpr hm, g⟩)
    obtain ⟨m0, hm0, rfl⟩ := List.mem_map.mp hl
    obtain ⟨h1, h2⟩ := List.mem_filter.mp hm0
    refine ⟨_, rfl, Nat.zero_lt_succ _, ?_⟩
    refine comp_filt (xs := (List.range N).filter (goesB a b)) (fun m => decide (f m = f m0)) (fun m => .int m) (by have := List.length_filter_le (goesB a b) (List.range N); rw [List.length_range] at this; omega) rfl (fun m hm R N h1 h0 => ?_) ?_
    · have hm := List.mem_range.mp (List.mem_filter.mp hm).1
      refine ⟨_, _, _, rfl, rfl, at_nat (by rw [List.getElem?_map, List.getElem?_range hm]; rfl), ?_⟩
      have e : decide (((f m : Nat) : Int) = ((f m0 : Nat) : Int)) = decide (f m = f m0) := by rw [decide_eq_decide]; omega
      show if decide (((f m : Nat) : Int) = ((f m0 : Nat) : Int)) = true then _ else _
      rw [e]
      exact ite2 (fun h => h1 h) (fun h => h0 (by simpa using h))
    refine ⟨rfl, ?_⟩
    have := q (f m0) ⟨m0, List.mem_range.mp h1, h2, rfl⟩ (fun m hm g => by
      have := hle (f m : Nat) (List.mem_map.mpr ⟨m, List.mem_filter.mpr ⟨List.mem_range.mpr hm, g⟩, rfl⟩)
      omega)
    rw [show ((List.range N).filter fun m => goesB a b m && decide (f m = f m0)) = ((List.range N).filter (goesB a b)).filter fun m => decide (f m = f m0) by
      rw [List.filter_filter]
      exact List.filter_congr fun m _ => Bool.and_comm _ _] at this
    exact this
def dDrawPins : XF := fun as ce Q => ∃ (k n : Nat) (js : List Dt), as = [.c 0, .d (.int n)] ∧ ce = [.own js] ∧ JarOk k js ∧ k < 10 ^ 5 ∧ n ≤ 9 ∧ ∀ (a b : Nat) js', a < 2 ^ n → b < 2 ^ n → a &&& b = 0 → JarOk (k + 1 + n) js' → Q (.d (.tup [.int a, .int b])) [.own js']
abbrev N_law_draw_pins : List Str := ["jar", "size", "way", "pins", "p", "kind"]
theorem sc_law_draw_pins : FnScope N_law_draw_pins ["jar", "size"] (defScope s__law_draw_pins) := ⟨rfl, rfl, rfl, by decide +kernel, rfl, by decide +kernel, by decide +kernel⟩
theorem d_draw_pins (D : Dfn K mg "_law_draw_pins" s__law_draw_pins ["jar", "size"]) (z : Z mg) (O_law_take : DOk P w K mg base 1 "_law_take" ["jar", "upto"] dTake) : DOk P w K mg base 2 "_law_draw_pins" ["jar", "size"] dDrawPins := by
  refine def_ok D sc_law_draw_pins (fun as ce Q h => ?_) (fun f cdv A outer s H E hc hr => (dss_cons (ds_set 2 (fun _ => sc_law_draw_pins.nd) (fun _ => rfl) (fun _ => Or.inl rfl) (de_j (fun _ => O_law_take) (fun _ => hc) (fun _ => hr.mono (by decide)) (da_cons (de_var 0) (da_cons de_int da_nil))))
      (dss_cons (ds_set 3 (fun _ => sc_law_draw_pins.nd) (fun _ => rfl) (fun _ => Or.inl rfl) (de_lst (da_cons de_int (da_cons de_int da_nil))))
      (dss_cons (ds_for (fun _ => PassesOwn.never) (fun _ => rfl) (di_rng1 (fun _ => rfl) (fun _ => z.range) (da_cons (de_var 1) da_nil)) (dg_name 4 (fun _ => sc_law_draw_pins.nd) (fun _ => rfl) (fun _ => Or.inl rfl))
        (dss_cons (ds_set 5 (fun _ => sc_law_draw_pins.nd) (fun _ => rfl) (fun _ => Or.inl rfl) (de_j (fun _ => O_law_take) (fun _ => hc) (fun _ => hr.mono (by decide)) (da_cons (de_var 0) (da_cons de_int da_nil))))
      (dss_cons (ds_J (ds_if (dt_cmp (do_eq (K := K) (fun _ => hr.units)) (de_var 2) de_int (nomark _)) (dss_one (ds_set 5 (fun _ => sc_law_draw_pins.nd) (fun _ => rfl) (fun _ => Or.inl rfl) de_int)) dss_nil))
      (dss_cons (ds_J (ds_if (dt_J (dw_t (dw_or (dt_J (dw_t (dw_and (dt_cmp (do_eq (K := K) (fun _ => hr.units)) (de_var 2) de_int (nomark _)) (dw_and1 (dt_cmp (do_eq (K := K) (fun _ => hr.units)) (de_var 5) de_int (nomark _)))))) (dw_or1 (dt_J (dw_t (dw_and (dt_cmp (do_eq (K := K) (fun _ => hr.units)) (de_var 2) de_int (nomark _)) (dw_and1 (dt_cmp (do_eq (K := K) (fun _ => hr.units)) (de_var 5) de_int (nomark _)))))))))) (dss_one (ds_set 5 (fun _ => sc_law_draw_pins.nd) (fun _ => rfl) (fun _ => Or.inl rfl) de_int)) dss_nil))
      (dss_cons (ds_J (ds_if (dt_cmp (do_eq (K := K) (fun _ => hr.units)) (de_var 2) de_int (nomark _)) (dss_one (ds_set 5 (fun _ => sc_law_draw_pins.nd) (fun _ => rfl) (fun _ => Or.inl rfl) (de_op do_mod (de_callTy dc_int (fun _ => rfl) (fun _ => z.int) (by decide +kernel) (da_cons (de_var 5) da_nil)) de_int))) dss_nil))
      (dss_one (ds_J (ds_if (dt_cmp (do_lt (K := K) (fun _ => hr.units0)) (de_var 5) de_int (nomark _)) (dss_one (ds_asg (de_op (do_add (K := K)) (de_ix (K := K) (de_var 3) (de_var 5) (fun _ _ => rfl)) (de_op do_shl de_int (de_var 4))) (dg_sub (de_var 3) (de_var 5)))) dss_nil))))))))
      (dss_one (ds_ret (de_tup (da_cons (de_ix (K := K) (de_var 3) de_int (fun _ _ => rfl)) (da_cons (de_ix (K := K) (de_var 3) de_int (fun _ _ => rfl)) da_nil))))))))) (fun as ce Qd h => ?_)
  · obtain ⟨k, n, js, rfl, _⟩ := h
    rfl
  · obtain ⟨k, n, js, rfl, rfl, jo, hk, hn, q⟩ := h
    refine ⟨_, _, rfl, List.not_mem_nil, rfl, k, 7, js, rfl, rfl, jo, by omega, by decide, by decide, fun wy js1 hwy jo1 => ?_⟩
    refine ⟨rfl, ?_⟩
    refine ⟨⟨by omega, by omega⟩, ?_⟩
    refine for_rng (fun p s => ∃ (js : List Dt) (a b : Nat) (v4 v5 : Option Rf), s = ⟨[some (.c 0), some (.d (.int n)), some (.d (.int wy)), some (.c 1), v4, v5], [.own js, .own [.int a, .int b]]⟩ ∧ JarOk (k + 1 + p) js ∧ a < 2 ^ p ∧ b < 2 ^ p ∧ a &&& b = 0) ⟨js1, 0, 0, none, none, rfl, jo1, by decide, by decide, rfl⟩ ?_ ?_
    · rintro p s hp ⟨js2, a, b, v4, v5, rfl, jo2, ha, hb, hab⟩
      refine ⟨_, _, rfl, List.not_mem_nil, rfl, _, 5, js2, rfl, rfl, jo2, by omega, by decide, by decide, fun kd js3 hkd jo3 => ?_⟩
      refine ⟨fun s => ∃ kd : Nat, s = ⟨[some (.c 0), some (.d (.int n)), some (.d (.int wy)), some (.c 1), some (.d (.int (p : Nat))), some (.d (.int kd))], [.own js3, .own [.int a, .int b]]⟩, ite2 (fun _ => ⟨4, rfl⟩) (fun _ => ⟨kd, rfl⟩), ?_⟩
      rintro s ⟨kd1, rfl⟩
      refine ⟨fun s => ∃ kd : Nat, s = ⟨[some (.c 0), some (.d (.int n)), some (.d (.int wy)), some (.c 1), some (.d (.int (p : Nat))), some (.d (.int kd))], [.own js3, .own [.int a, .int b]]⟩, ?_, ?_⟩
      · refine ⟨fun t ce => ce = [.own js3, .own [.int a, .int b]], ?_, ?_⟩
        · refine ⟨fun t ce => ce = [.own js3, .own [.int a, .int b]], ite2 (fun _ => rfl) (fun _ => rfl), ?_⟩
          rintro t ce rfl
          refine ite2 (fun _ => rfl) (fun _ => ?_)
          refine ⟨fun t ce => ce = [.own js3, .own [.int a, .int b]], ite2 (fun _ => rfl) (fun _ => rfl), ?_⟩
          rintro t ce rfl
          rfl
        · rintro t ce rfl
          exact ite2 (fun _ => ⟨4, rfl⟩) (fun _ => ⟨kd1, rfl⟩)
      rintro s ⟨kd2, rfl⟩
      refine ⟨fun s => ∃ kd : Nat, s = ⟨[some (.c 0), some (.d (.int n)), some (.d (.int wy)), some (.c 1), some (.d (.int (p : Nat))), some (.d (.int kd))], [.own js3, .own [.int a, .int b]]⟩, ?_, ?_⟩
      · refine ite2 (fun _ => ?_) (fun _ => ⟨kd2, rfl⟩)
        refine ⟨(by show (0 : Int) < 2; decide), ?_⟩
        exact ⟨kd2 % 2, rfl⟩
      rintro s ⟨kd3, rfl⟩
      refine ⟨fun s => ∃ a b : Nat, s = ⟨[some (.c 0), some (.d (.int n)), some (.d (.int wy)), some (.c 1), some (.d (.int (p : Nat))), some (.d (.int kd3))], [.own js3, .own [.int a, .int b]]⟩ ∧ a < 2 ^ (p + 1) ∧ b < 2 ^ (p + 1) ∧ a &&& b = 0, ?_, ?_⟩
      · have pw : 2 ^ (p + 1) = 2 ^ p * 2 := Nat.pow_succ _ _
        refine ite2 (fun h => ?_) (fun _ => ⟨a, b, rfl, by omega, by omega, hab⟩)
        have h := of_decide_eq_true h
        have hp2 : ((1 : Int) * 2 ^ ((p : Int)).toNat) = ((2 ^ p : Nat) : Int) := by rw [Int.toNat_natCast, Int.one_mul]; push_cast; rfl
        have : kd3 = 0 ∨ kd3 = 1 := by omega
        rcases this with rfl | rfl
        · refine ⟨_, _, _, rfl, rfl, at_nat (i := 0) rfl, ?_⟩
          refine ⟨⟨by omega, by omega, by decide⟩, ?_⟩
          refine ⟨1, 0, 0, _, rfl, rfl, rfl, rfl, ?_⟩
          refine ⟨2 ^ p + a, b, ?_, by omega, by omega, and_top ha hb hab⟩
          show (⟨_, [Cl.own js3, Cl.own [.int ((a : Int) + 1 * 2 ^ ((p : Int)).toNat), .int b]]⟩ : Ds) = _
          rw [hp2, show ((a : Int) + ((2 ^ p : Nat) : Int)) = ((2 ^ p + a : Nat) : Int) by omega]
        · refine ⟨_, _, _, rfl, rfl, at_nat (i := 1) rfl, ?_⟩
          refine ⟨⟨by omega, by omega, by decide⟩, ?_⟩
          refine ⟨1, 1, 1, _, rfl, rfl, rfl, rfl, ?_⟩
          refine ⟨a, 2 ^ p + b, ?_, by omega, by omega, by rw [Nat.and_comm]; exact and_top hb ha (by rw [Nat.and_comm]; exact hab)⟩
          show (⟨_, [Cl.own js3, Cl.own [.int a, .int ((b : Int) + 1 * 2 ^ ((p : Int)).toNat)]]⟩ : Ds) = _
          rw [hp2, show ((b : Int) + ((2 ^ p : Nat) : Int)) = ((2 ^ p + b : Nat) : Int) by omega]
      rintro s ⟨a2, b2, rfl, h1, h2, h3⟩
      exact .inl ⟨js3, a2, b2, _, _, rfl, jo3, h1, h2, h3⟩
    · rintro s ⟨js2, a, b, v4, v5, rfl, jo2, ha, hb, hab⟩
      refine ⟨_, _, _, rfl, rfl, at_zero, ?_⟩
      refine ⟨_, _, _, rfl, rfl, at_nat (i := 1) rfl, ?_⟩
      refine ⟨rfl, ?_⟩
      exact q a b js2 ha hb hab jo2
end
end TD
set_option Elab.async false
set_option linter.all false
set_option maxRecDepth 100000
set_option maxHeartbeats 1000000
/-! the due cut -/
namespace TD
open PySem PySem.Spec PyProof.Rows L2 TW
theorem borN (a b : Nat) : Builtin.bitOr (a : Int) (b : Int) = ((a ||| b : Nat) : Int) := by
  rw [Bits.bitOr_pp (by omega) (by omega), Int.toNat_natCast, Int.toNat_natCast]
/-- the lots of the least sides, what all hold, what any holds -/
structure DueC (n : Nat) (A : List Arc) (a b low F L : Nat) : Prop where
  at_ : ∃ m, m < 2 ^ n ∧ goesB a b m = true ∧ cutA A m.testBit = low
  le : ∀ m, m < 2 ^ n → goesB a b m = true → low ≤ cutA A m.testBit
  fst : ∀ k, F.testBit k = true ↔ ∀ m, m < 2 ^ n → goesB a b m = true → cutA A m.testBit = low → m.testBit k = true
  lst : ∀ k, L.testBit k = true ↔ ∃ m, m < 2 ^ n ∧ goesB a b m = true ∧ cutA A m.testBit = low ∧ m.testBit k = true
def resT (low : Nat) (F L : List Nat) : Dt := .tup [.int low, .tup (natT F), .tup (natT L)]
section
variable {P : Program} {w : World} {K : PySem.W.Frag} {mg : Str → Option Value} {base : Heap}
def dDueCut : XF := fun as ce Q => ∃ (n a b : Nat) (A : List Arc), as = [.d (.lst (sumsT n A)), .d (.tup [.int a, .int b]), .d (.int n)] ∧ ce = [] ∧ n ≤ 9 ∧ a < 2 ^ n ∧ a &&& b = 0 ∧
  ∀ low F L : Nat, DueC n A a b low F L → Q (.d (resT low (bitsL F n) (bitsL L n))) []
abbrev N_law_due_cut : List Str := ["sums", "pins", "size", "low", "masks", "first", "last", "mask"]
end
end TD
set_option Elab.async false
set_option linter.all false
set_option maxRecDepth 100000
set_option maxHeartbeats 1000000
/-! a flow's sides are the due ones -/
namespace TD
open PySem PySem.Spec PyProof.Rows L2 TW
theorem mask_ex : ∀ (n : Nat) (f : Nat → Bool), ∃ m, m < 2 ^ n ∧ ∀ k, k < n → m.testBit k = f k
  | 0, f => ⟨0, by decide, fun k h => by omega⟩
  | n + 1, f => by
    obtain ⟨m, hm, h⟩ := mask_ex n f
    have pw : 2 ^ (n + 1) = 2 ^ n * 2 := Nat.pow_succ _ _
    cases e : f n with
    | false =>
      refine ⟨m, by omega, fun k hk => ?_⟩
      by_cases c : k < n
      · exact h k c
      · rw [show k = n by omega, e]
        exact Nat.testBit_lt_two_pow hm
    | true =>
      refine ⟨2 ^ n + m, by omega, fun k hk => ?_⟩
      by_cases c : k < n
      · rw [Nat.testBit_two_pow_add_gt c]
        exact h k c
      · rw [show k = n by omega, e, Nat.testBit_two_pow_add_eq, Nat.testBit_lt_two_pow hm]
        rfl
theorem mem_bits {m n k : Nat} : k ∈ bitsL m n ↔ k < n ∧ m.testBit k = true := by
  unfold bitsL
  rw [List.mem_filter, List.mem_range]
theorem bits_ok (m n : Nat) : SideOk n (bitsL m n) := ⟨List.pairwise_lt_range.filter _, fun k hk => (mem_bits.mp hk).1⟩
theorem hi_off {a n k : Nat} (ha : a < 2 ^ n) (h : a.testBit k = true) : k < n := by
  refine Classical.byContradiction fun c => ?_
  rw [Nat.testBit_lt_two_pow (Nat.lt_of_lt_of_le ha (Nat.pow_le_pow_right (by decide) (by omega)))] at h
  cases h
theorem goes_iff {a b n m : Nat} (ha : a < 2 ^ n) (hb : b < 2 ^ n) : goesB a b m = true ↔ TW.goesB (bitsL a n) (bitsL b n) m.testBit := by
  unfold goesB TW.goesB
  rw [Bool.and_eq_true, decide_eq_true_iff, decide_eq_true_iff]
  constructor
  · rintro ⟨h1, h2⟩
    refine ⟨fun s hs => ?_, fun t ht => ?_⟩
    · have := (mem_bits.mp hs).2
      rw [← h1, Nat.testBit_and, Bool.and_eq_true] at this
      exact this.1
    · have h3 := (mem_bits.mp ht).2
      have : (m &&& b).testBit t = false := by rw [h2, Nat.zero_testBit]
      rw [Nat.testBit_and, h3, Bool.and_true] at this
      exact this
  · rintro ⟨h1, h2⟩
    refine ⟨Nat.eq_of_testBit_eq fun k => ?_, Nat.eq_of_testBit_eq fun k => ?_⟩
    · rw [Nat.testBit_and]
      cases e : a.testBit k with
      | false => rw [Bool.and_false]
      | true => rw [Bool.and_true, h1 k (mem_bits.mpr ⟨hi_off ha e, e⟩)]
    · rw [Nat.testBit_and, Nat.zero_testBit]
      cases e : b.testBit k with
      | false => rw [Bool.and_false]
      | true => rw [Bool.and_true, h2 k (mem_bits.mpr ⟨hi_off hb e, e⟩)]
section
variable {ts : List Arc} {n : Nat} {S T : List Nat} {M : Nat → Nat → Int} {W : Int} {f : Nat → Bool}
theorem rc_zero (F : Flow ts n S T M W) (h : rcM n M f = 0) {a b : Nat} (ha : a < n) (hb : b < n) (fa : f a = true) (fb : f b = false) : M a b = 0 := by
  have in_ : ∀ a, a < n → 0 ≤ sumR n fun b => wZ (f a && !f b) (M a b) := fun a ha => sumR_nn fun b hb => by
    unfold wZ
    split
    · exact F.nn a b ha hb
    · exact Int.le_refl _
  have h1 := sumR_pos in_ h a ha
  have h2 := sumR_pos (fun b hb => by
    unfold wZ
    split
    · exact F.nn a b ha hb
    · exact Int.le_refl _) h1 b hb
  rw [fa, fb] at h2
  exact h2
theorem rc_of (h : ∀ a b, a < n → b < n → f a = true → f b = false → M a b = 0) : rcM n M f = 0 := sumR_zero fun a ha => sumR_zero fun b hb => by
  unfold wZ
  split
  · rename_i c
    rw [Bool.and_eq_true, Bool.not_eq_true'] at c
    exact h a b ha hb c.1 c.2
  · rfl
theorem reach_in (F : Flow ts n S T M W) (h : rcM n M f = 0) {s k : Nat} (r : Rch n M s k) (fs : f s = true) : f k = true ∧ k < n := by
  induction r with
  | refl l => exact ⟨fs, l⟩
  | @step v x r l p ih =>
    refine ⟨?_, l⟩
    cases e : f x with
    | true => rfl
    | false =>
      have := rc_zero F h ih.2 l ih.1 e
      omega
theorem reach_out (F : Flow ts n S T M W) (h : rcM n M f = 0) {t k : Nat} (r : Rch n (backM M) t k) (ft : f t = false) : f k = false ∧ k < n := by
  induction r with
  | refl l => exact ⟨ft, l⟩
  | @step v x r l p ih =>
    refine ⟨?_, l⟩
    cases e : f x with
    | false => rfl
    | true =>
      have := rc_zero F h l ih.2 e ih.1
      have p : 0 < M x v := p
      omega
theorem reach_front {x y : Nat} {z : Nat} (r : Rch n M y z) (l : x < n) (p : 0 < M x y) : Rch n M x z := by
  induction r with
  | refl h => exact .step (.refl l) h p
  | step r h q ih => exact .step ih h q
theorem reach_back {t k : Nat} (r : Rch n (backM M) t k) : Rch n M k t ∧ k < n := by
  induction r with
  | refl l => exact ⟨.refl l, l⟩
  | @step v x r l p ih => exact ⟨reach_front ih.1 l p, l⟩
open Classical in
theorem rch_iff {n : Nat} {M : Nat → Nat → Int} {S : List Nat} {k : Nat} : rchB n M S k = true ↔ ∃ s ∈ S, Rch n M s k := by
  unfold rchB
  exact decide_eq_true_iff
theorem rch_not {n : Nat} {M : Nat → Nat → Int} {S : List Nat} {k : Nat} : rchB n M S k = false ↔ ¬ ∃ s ∈ S, Rch n M s k := by
  rw [← rch_iff, Bool.not_eq_true]
/-- the greatest least side -/
theorem Flow.far (F : Flow ts n S T M W) (hT : ∀ t ∈ T, t < n) (no : ∀ t ∈ T, ¬ ∃ s ∈ S, Rch n M s t) : TW.goesB S T (fun k => !rchB n (backM M) T k) ∧ ((cutA ts (fun k => !rchB n (backM M) T k) : Nat) : Int) = W := by
  have g : TW.goesB S T (fun k => !rchB n (backM M) T k) := ⟨fun s hs => by
    show (!rchB n (backM M) T s) = true
    rw [Bool.not_eq_true', rch_not]
    rintro ⟨t, ht, r⟩
    exact no t ht ⟨s, hs, (reach_back r).1⟩, fun t ht => by
    show (!rchB n (backM M) T t) = false
    rw [Bool.not_eq_false', rch_iff]
    exact ⟨t, ht, .refl (hT t ht)⟩⟩
  refine ⟨g, ?_⟩
  rw [F.eq _ g, rc_of, Int.add_zero]
  intro a b ha hb ga gb
  have ga : (!rchB n (backM M) T a) = true := ga
  have gb : (!rchB n (backM M) T b) = false := gb
  rw [Bool.not_eq_true', rch_not] at ga
  rw [Bool.not_eq_false', rch_iff] at gb
  obtain ⟨t, ht, r⟩ := gb
  have nn := F.nn a b ha hb
  refine Classical.byContradiction fun c => ga ⟨t, ht, .step r ha (by show 0 < M a b; omega)⟩
end
theorem cutA_le {B : Nat} (f : Nat → Bool) : ∀ {ts : List Arc}, (∀ t ∈ ts, t.2.2 ≤ B) → cutA ts f ≤ ts.length * B
  | [], _ => Nat.zero_le _
  | t :: ts, h => by
    have h1 := h t List.mem_cons_self
    have h2 := cutA_le (B := B) f (ts := ts) fun s hs => h s (List.mem_cons_of_mem _ hs)
    rw [cutA_cons, List.length_cons, Nat.succ_mul]
    have : wIf (f t.1 != f t.2.1) t.2.2 ≤ t.2.2 := by
      unfold wIf
      split <;> omega
    omega
theorem due_is {n : Nat} {A : List Arc} (net : Net n A) {a b low F L : Nat} (ha : a < 2 ^ n) (hb : b < 2 ^ n) (D : DueC n A a b low F L) {M : Nat → Nat → Int} {W : Nat} (fl : Flow A n (bitsL a n) (bitsL b n) M W) (no : ∀ t ∈ bitsL b n, ¬ ∃ s ∈ bitsL a n, Rch n M s t) : W = low ∧ lowS n M (bitsL a n) = bitsL F n ∧ highS n M (bitsL b n) = bitsL L n := by
  have okA : ∀ t ∈ A, arcOk n t := fun t ht => by
    obtain ⟨h1, h2, _⟩ := net.ok t ht
    exact ⟨by omega, h2, by omega⟩
  obtain ⟨g1, c1⟩ := fl.done (bits_ok a n).lt no
  obtain ⟨g2, c2⟩ := Flow.far fl (bits_ok b n).lt no
  -- a side as a mask
  have mk : ∀ f : Nat → Bool, TW.goesB (bitsL a n) (bitsL b n) f → ∃ m, m < 2 ^ n ∧ goesB a b m = true ∧ (∀ k, k < n → m.testBit k = f k) ∧ cutA A m.testBit = cutA A f := fun f g => by
    obtain ⟨m, hm, h⟩ := mask_ex n f
    refine ⟨m, hm, (goes_iff ha hb).mpr ⟨fun s hs => ?_, fun t ht => ?_⟩, h, cutA_congrN okA h⟩
    · rw [h s (mem_bits.mp hs).1]; exact g.1 s hs
    · rw [h t (mem_bits.mp ht).1]; exact g.2 t ht
  obtain ⟨m1, l1, gm1, b1, e1⟩ := mk _ g1
  obtain ⟨m2, l2, gm2, b2, e2⟩ := mk _ g2
  have eW : W = low := by
    obtain ⟨m, hm, gm, em⟩ := D.at_
    have h1 := fl.le ((goes_iff ha hb).mp gm)
    have h2 := D.le m1 l1 gm1
    rw [e1] at h2
    omega
  have zero : ∀ m, m < 2 ^ n → goesB a b m = true → cutA A m.testBit = low → rcM n M m.testBit = 0 := fun m _ gm em => by
    have := fl.eq _ ((goes_iff ha hb).mp gm)
    omega
  refine ⟨eW, ?_, ?_⟩
  · refine List.filter_congr fun k hk => ?_
    have hk := List.mem_range.mp hk
    rw [Bool.eq_iff_iff, D.fst k]
    constructor
    · intro h m hm gm em
      obtain ⟨s, hs, r⟩ := rch_iff.mp h
      exact (reach_in fl (zero m hm gm em) r (((goes_iff ha hb).mp gm).1 s hs)).1
    · intro h
      have := h m1 l1 gm1 (by rw [e1]; omega)
      rw [b1 k hk] at this
      exact this
  · refine List.filter_congr fun k hk => ?_
    have hk := List.mem_range.mp hk
    rw [Bool.eq_iff_iff, D.lst k]
    constructor
    · intro h
      exact ⟨m2, l2, gm2, by rw [e2]; omega, by rw [b2 k hk]; exact h⟩
    · rintro ⟨m, hm, gm, em, h⟩
      show (!rchB n (backM M) (bitsL b n) k) = true
      rw [Bool.not_eq_true']
      refine rch_not.mpr fun ⟨t, ht, r⟩ => ?_
      rw [(reach_out fl (zero m hm gm em) r (((goes_iff ha hb).mp gm).2 t ht)).1] at h
      cases h
end TD
set_option Elab.async false
set_option linter.all false
set_option maxRecDepth 100000
set_option maxHeartbeats 1000000
/-! what is written; trees without lists -/
namespace TD
open PySem PySem.Spec PyProof.Rows L2 TW
theorem rp_nat {m : Nat} {k : Nat} (h : k < 10 ^ 40) : rp m (.int k) = true := by
  have : decide (((k : Int)).natAbs < 10 ^ 40) = true := decide_eq_true (by omega)
  cases m <;> exact this
theorem rp_nats {m : Nat} {l : List Nat} (h : ∀ k ∈ l, k < 10 ^ 40) : rp (m + 1) (.tup (natT l)) = true := by
  show (natT l).all (rp m) = true
  refine List.all_eq_true.mpr fun d hd => ?_
  obtain ⟨k, hk, rfl⟩ := List.mem_map.mp hd
  exact rp_nat (h k hk)
theorem sz_nats {l : List Nat} : szD (.tup (natT l)) ≤ 43 * l.length + 3 := by
  show szDs (natT l) + 3 ≤ _
  have := szDs_le (m := 41) (ds := natT l) fun d hd => by
    obtain ⟨k, _, rfl⟩ := List.mem_map.mp hd
    exact Nat.le_refl _
  unfold natT at this ⊢
  rw [List.length_map] at this
  omega
theorem rp_res {W n : Nat} {F L : List Nat} (hW : W < 10 ^ 40) (hF : SideOk n F) (hL : SideOk n L) (hn : n ≤ 100) : rp 60 (resT W F L) = true ∧ szD (resT W F L) ≤ 2 ^ 24 := by
  constructor
  · show ([Dt.int W, .tup (natT F), .tup (natT L)]).all (rp 59) = true
    rw [List.all_cons, List.all_cons, List.all_cons, rp_nat hW, rp_nats fun k hk => by have := hF.lt k hk; omega, rp_nats fun k hk => by have := hL.lt k hk; omega]
    rfl
  · have h1 := sz_nats (l := F)
    have h2 := sz_nats (l := L)
    have := hF.len
    have := hL.len
    show 41 + 2 + (szD (.tup (natT F)) + 2 + (szD (.tup (natT L)) + 2 + 0)) + 3 ≤ 2 ^ 24
    omega
theorem low_ok (n : Nat) (M : Nat → Nat → Int) (S : List Nat) : SideOk n (lowS n M S) := side_ok n _
theorem high_ok (n : Nat) (M : Nat → Nat → Int) (T : List Nat) : SideOk n (highS n M T) := side_ok n _
/-- the weight of the first tie is another -/
theorem net_bump {n v : Nat} {r : Arc} {A : List Arc} (h : Net n (r :: A)) (hv : 0 < v) : Net n ((r.1, r.2.1, v) :: A) := by
  have pw : (r :: A).Pairwise fun s t => s.1 < t.1 ∨ (s.1 = t.1 ∧ s.2.1 < t.2.1) := by
    have := sumA_pw n (r :: A)
    rw [h.sum] at this
    exact this
  have pw2 : ((r.1, r.2.1, v) :: A).Pairwise fun s t : Arc => s.1 < t.1 ∨ (s.1 = t.1 ∧ s.2.1 < t.2.1) := by
    rw [List.pairwise_cons] at pw ⊢
    exact pw
  have ok : ∀ t ∈ (r.1, r.2.1, v) :: A, t.1 < t.2.1 ∧ t.2.1 < n ∧ 0 < t.2.2 := fun t ht => by
    rcases List.mem_cons.mp ht with e | e
    · rw [e]
      obtain ⟨h1, h2, _⟩ := h.ok r List.mem_cons_self
      exact ⟨h1, h2, hv⟩
    · exact h.ok t (List.mem_cons_of_mem _ e)
  have nd : (((r.1, r.2.1, v) :: A).map fun t : Arc => (t.1, t.2.1)).Nodup := by
    unfold List.Nodup
    rw [List.pairwise_map]
    exact pw2.imp fun {x y} q e => by
      rw [Prod.mk.injEq] at e
      omega
  refine ⟨h.pos, h.few, strict_ext (fun x y a b => by omega) (sumA_pw n _) pw2 fun z => (tie_mem ok nd z).symm⟩
theorem nol_arcs (A : List Arc) : ∀ d ∈ A.map arcT, NoL d := fun d hd => by
  obtain ⟨t, _, rfl⟩ := List.mem_map.mp hd
  refine .tup fun d hd => ?_
  simp only [List.mem_cons, List.not_mem_nil, or_false] at hd
  rcases hd with rfl | rfl | rfl <;> exact .int _
theorem nol_web (C : Addr) (n : Nat) (A : List Arc) : NoL (webT C n A) := .ins fun d hd => by
  simp only [List.mem_cons, List.not_mem_nil, or_false] at hd
  rcases hd with rfl | rfl
  · exact .int _
  · exact .tup (nol_arcs A)
theorem nol_nats (l : List Nat) : NoL (.tup (natT l)) := .tup fun d hd => by
  obtain ⟨k, _, rfl⟩ := List.mem_map.mp hd
  exact .int _
theorem nol_res (low : Nat) (F L : List Nat) : NoL (resT low F L) := .tup fun d hd => by
  simp only [List.mem_cons, List.not_mem_nil, or_false] at hd
  rcases hd with rfl | rfl | rfl
  · exact .int _
  · exact nol_nats F
  · exact nol_nats L
theorem nol_sums (n : Nat) (A : List Arc) : ∀ d ∈ sumsT n A, NoL d := fun d hd => by
  obtain ⟨k, _, rfl⟩ := List.mem_map.mp hd
  exact .int _
theorem rp_arcs {A : List Arc} {n : Nat} (h : ∀ t ∈ A, t.1 < n ∧ t.2.1 < n ∧ t.2.2 ≤ 10 ^ 13) (hn : n ≤ 100) (l : A.length ≤ 100) : rp 60 (.lst (A.map arcT)) = true ∧ szD (.lst (A.map arcT)) ≤ 2 ^ 24 := by
  constructor
  · show (A.map arcT).all (rp 59) = true
    refine List.all_eq_true.mpr fun d hd => ?_
    obtain ⟨t, ht, rfl⟩ := List.mem_map.mp hd
    obtain ⟨h1, h2, h3⟩ := h t ht
    show ([Dt.int t.1, .int t.2.1, .int t.2.2]).all (rp 58) = true
    rw [List.all_cons, List.all_cons, List.all_cons, rp_nat (by omega), rp_nat (by omega), rp_nat (by omega)]
    rfl
  · show szDs (A.map arcT) + 3 ≤ 2 ^ 24
    have := szDs_le (m := 132) (ds := A.map arcT) fun d hd => by
      obtain ⟨t, _, rfl⟩ := List.mem_map.mp hd
      exact Nat.le_refl _
    rw [List.length_map] at this
    omega
end TD
set_option Elab.async false
set_option linter.all false
set_option maxRecDepth 100000
set_option maxHeartbeats 1000000
/-! the program's cuts, told of trees -/
namespace TD
open PySem PySem.Spec PyProof.Rows L2 TW
def roomsT (n : Nat) (M : Nat → Nat → Int) : Dt := .lst ((List.range n).map fun i => .lst ((rowM M n i).map .int))
theorem is_rooms {G : Hp} {v : V} {n : Nat} {M : Nat → Nat → Int} (h : Is G v (roomsT n M)) : ∃ R, v = .ref R ∧ RoomsAt G R n M := by
  obtain ⟨R, xs, rfl, h1, h2⟩ := Is.inL h
  have key : ∀ (l : List Nat) (xs : List V), Iss G xs (l.map fun i => Dt.lst ((rowM M n i).map .int)) → ∃ as : List Addr, xs = refsA as ∧ as.length = l.length ∧ ∀ (i : Nat) (a : Addr) (k : Nat), as[i]? = some a → l[i]? = some k → G a = some (.lst ((rowM M n k).map V.int)) := by
    intro l
    induction l with
    | nil =>
      intro xs h
      have : xs = [] := List.length_eq_zero_iff.mp h.1
      subst this
      exact ⟨[], rfl, rfl, fun i a k h _ => by cases h⟩
    | cons k l ih =>
      intro xs h
      cases xs with
      | nil => cases h.1
      | cons x xs =>
        obtain ⟨a, ys, rfl, h3, h4⟩ := Is.inL h.head
        obtain ⟨as, rfl, e2, e3⟩ := ih xs h.rest
        refine ⟨a :: as, rfl, by rw [List.length_cons, List.length_cons, e2], fun i b m hb hm => ?_⟩
        cases i with
        | zero =>
          cases hb
          cases hm
          rw [← h4.ints]
          exact h3
        | succ i => exact e3 i b m hb hm
  obtain ⟨as, rfl, e2, e3⟩ := key _ xs h2
  rw [List.length_range] at e2
  refine ⟨R, rfl, as, h1, e2, fun i a ha => e3 i a i ha ?_⟩
  rw [List.getElem?_range (by have := (List.getElem?_eq_some_iff.mp ha).1; omega)]
theorem rooms_is {G : Hp} {R : Addr} {n : Nat} {M : Nat → Nat → Int} (h : RoomsAt G R n M) : Is G (.ref R) (roomsT n M) := by
  obtain ⟨as, h1, h2, h3⟩ := h
  refine Is.lst h1 (by rw [List.length_map, List.length_range]; unfold refsA; rw [List.length_map, h2]) fun i x d e1 e2 => ?_
  unfold refsA at e1
  rw [List.getElem?_map] at e1 e2
  cases ha : as[i]? with
  | none => rw [ha] at e1; cases e1
  | some a =>
    rw [ha] at e1
    cases e1
    have lt : i < n := by have := (List.getElem?_eq_some_iff.mp ha).1; omega
    rw [List.getElem?_range lt] at e2
    cases e2
    exact (iss_ints G _).mkL (h3 i a ha)
theorem row_ints (l : List Nat) : Dt.tup (natT l) = intsT (rowI l) := by
  unfold intsT
  rw [natT_int]
section
variable {P : Program} {w : World} {K : PySem.W.Frag} {mg : Str → Option Value} {base : Heap} {C : Addr}
def dCheckBetween (C : Addr) : XF := fun as ce Q => ∃ (n : Nat) (ts : List Arc) (S T : List Nat), as = [.d (webT C n ts), .d (.tup (natT S)), .d (.tup (natT T))] ∧ ce = [] ∧ n ≤ 1000 ∧ SideOk n S ∧ SideOk n T ∧ (∀ s ∈ S, s ∉ T) ∧ Q (.d .non) []
theorem sp_between : ∀ vs H Q E, spOf (dCheckBetween C) vs H Q E → spBetween2 K C vs H Q E := by
  rintro vs H Q E ⟨G, fr, ps, ce, as, Qd, R, o, ⟨n, ts, S, T, rfl, rfl, hn, hS, hT, ap, q⟩, fin⟩
  obtain rfl := rl_nil R
  cases o with
  | cons o1 o =>
    cases o with
    | cons o2 o =>
      cases o with
      | cons o3 o =>
        cases o
        obtain ⟨a, rfl, web⟩ := is_web.mp o1
        obtain ⟨sa, rfl, hs⟩ := is_row.mp o2
        obtain ⟨ta, rfl, ht⟩ := is_row.mp o3
        exact ⟨a, sa, ta, n, ts, S, T, rfl, web.ex R.ex, Evl.st_of (R.ex _ _ hs), Evl.st_of (R.ex _ _ ht), hS, hT, hn, ap, fun H' e => fin _ _ G [] H' _ q Ex.rfl' List.prefix_rfl (R.go e) (show Is G _ _ from .non)⟩
def dLeft (C : Addr) : XF := fun as ce Q => ∃ (n : Nat) (ts : List Arc) (S T : List Nat), as = [.d (webT C n ts), .d (.tup (natT S)), .d (.tup (natT T))] ∧ ce = [] ∧ Net n ts ∧ SideOk n S ∧ SideOk n T ∧ (∀ s ∈ S, s ∉ T) ∧ ∀ (M : Nat → Nat → Int) (W : Int), Flow ts n S T M W → (∀ t ∈ T, ¬ ∃ s ∈ S, Rch n M s t) → Q (.d (roomsT n M)) []
theorem sp_left : ∀ vs H Q E, spOf (dLeft C) vs H Q E → spLeft C vs H Q E := by
  rintro vs H Q E ⟨G, fr, ps, ce, as, Qd, R, o, ⟨n, ts, S, T, rfl, rfl, net, hS, hT, ap, q⟩, fin⟩
  obtain rfl := rl_nil R
  cases o with
  | cons o1 o =>
    cases o with
    | cons o2 o =>
      cases o with
      | cons o3 o =>
        cases o
        obtain ⟨a, rfl, web⟩ := is_web.mp o1
        obtain ⟨sa, rfl, hs⟩ := is_row.mp o2
        obtain ⟨ta, rfl, ht⟩ := is_row.mp o3
        obtain ⟨l0, S0, bk, _⟩ := rl_old R
        refine ⟨G, l0, a, sa, ta, n, ts, S, T, rfl, S0, web, net, hs, ht, hS.nd, hS.lt, ap, fun H' R as M W S2 la fl no => ?_⟩
        obtain ⟨G2, e2, rm, S3⟩ := S2.sinkRooms la
        exact fin _ _ G2 [] H' _ (q M W fl no) e2 List.prefix_rfl (bk G2 H' e2 S3) (show Is G2 _ _ from rooms_is rm)
def dOuter : XF := fun as ce Q => ∃ (n : Nat) (M : Nat → Nat → Int) (S T : List Nat), as = [.d (roomsT n M), .d (.tup (natT S)), .d (.tup (natT T))] ∧ ce = [] ∧ n ≤ 60 ∧ SideOk n S ∧ SideOk n T ∧ Q (.d (.tup [intsT (rowI (lowS n M S)), intsT (rowI (highS n M T))])) []
theorem sp_outer : ∀ vs H Q E, spOf dOuter vs H Q E → spOuter vs H Q E := by
  rintro vs H Q E ⟨G, fr, ps, ce, as, Qd, R, o, ⟨n, M, S, T, rfl, rfl, hn, hS, hT, q⟩, fin⟩
  obtain rfl := rl_nil R
  cases o with
  | cons o1 o =>
    cases o with
    | cons o2 o =>
      cases o with
      | cons o3 o =>
        cases o
        obtain ⟨ra, rfl, rm⟩ := is_rooms (show Is G _ (roomsT n M) from o1)
        obtain ⟨sa, rfl, hs⟩ := is_row.mp o2
        obtain ⟨ta, rfl, ht⟩ := is_row.mp o3
        obtain ⟨l0, S0, bk, _⟩ := rl_old R
        refine ⟨G, l0, ra, sa, ta, n, M, S, T, rfl, S0, rm, hs, ht, hS.nd, hS.lt, hT.nd, hT.lt, hn, fun G' H' u lu gu e S' hu hl hg => ?_⟩
        exact fin _ _ G' [] H' _ q e List.prefix_rfl (bk G' H' e S') (show Is G' _ (.tup _) from (Iss.cons ((iss_ints G' _).mkT hl) (.cons ((iss_ints G' _).mkT hg) .nil)).mkT hu)
def dWays : XF := fun as ce Q => ∃ (n : Nat) (M : Nat → Nat → Int) (S : List Nat), as = [.d (.lst ((rowI S).map .int)), .d (roomsT n M)] ∧ ce = [] ∧ n ≤ 1000 ∧ S.Nodup ∧ (∀ s ∈ S, s < n) ∧ ∀ ks, FullW n M S ks → Q (.c 0) [.any (.dK (ks.map entW))]
theorem sp_ways : ∀ vs H Q E, spOf dWays vs H Q E → spWays K vs H Q E := by
  rintro vs H Q E ⟨G, fr, ps, ce, as, Qd, R, o, ⟨n, M, S, rfl, rfl, hn, nd, lt, q⟩, fin⟩
  obtain rfl := rl_nil R
  cases o with
  | cons o1 o =>
    cases o with
    | cons o2 o =>
      cases o
      obtain ⟨a, xs, rfl, h1, h2⟩ := Is.inL (show Is G _ (.lst ((rowI S).map .int)) from o1)
      obtain ⟨ra, rfl, rm⟩ := is_rooms (show Is G _ (roomsT n M) from o2)
      refine ⟨a, ra, n, M, S, rfl, .inl (Evl.sq_of (R.ex _ _ (by rw [← h2.ints]; exact h1))), nd, lt, hn, rm.ex R.ex, fun H' D ks e nD hD fw => ?_⟩
      have nf : ∀ f ∈ fr, f.1 ≠ D := fun f hf z => by
        have := (R.fo f hf).2
        rw [z, nD] at this
        cases this
      refine fin _ _ G [D] H' _ (q ks fw) Ex.rfl' (List.nil_prefix) ?_ ⟨D, rfl, rfl⟩
      have R1 := R.go e
      exact ⟨R1.ex, rfl, List.nodup_cons.mpr ⟨List.not_mem_nil, List.nodup_nil⟩, fun k p c h1 h2 => (by
        cases k with
        | zero => cases h1; cases h2; exact ⟨.inl (Evl.fresh_back R.ex nD), hD⟩
        | succ k => cases h1), R1.fo, R1.nf, fun f hf hm => nf f hf (List.mem_singleton.mp hm)⟩
abbrev N_side_with : List Str := ["side", "places"]
theorem sc_side_with : FnScope N_side_with ["side", "places"] (defScope s_side_with) := ⟨rfl, rfl, rfl, by decide +kernel, rfl, by decide +kernel, by decide +kernel⟩
def dSideWith : XF := fun as ce Q => ∃ xs ys : List Int, as = [.d (intsT xs), .d (intsT ys)] ∧ ce = [] ∧ xs.length + ys.length ≤ 4000 ∧ ∀ ns : List Int, ns.Pairwise (· < ·) → (∀ k, k ∈ ns ↔ k ∈ xs ++ ys) → Q (.d (intsT ns)) []
theorem d_side_with (D : Dfn K mg "side_with" s_side_with ["side", "places"]) (z : Z mg) : DOk P w K mg base 1 "side_with" ["side", "places"] dSideWith := by
  refine def_ok D sc_side_with (fun as ce Q h => ?_) (fun f cdv A outer s H E hc hr => (dss_one (ds_ret (de_callTy (dc_tup (K := K)) (fun _ => rfl) (fun _ => z.tuple) (by decide +kernel) (da_cons (de_sortSet (fun _ => rfl) (fun _ => rfl) (fun _ => z.sorted) (fun _ => rfl) (fun _ => z.set) (de_op (do_add (K := K)) (de_var 0) (de_var 1))) da_nil))))) (fun as ce Qd h => ?_)
  · obtain ⟨xs, ys, rfl, _⟩ := h
    rfl
  · obtain ⟨xs, ys, rfl, rfl, hl, q⟩ := h
    refine ⟨by rw [List.length_map, List.length_map]; omega, ?_⟩
    refine ⟨xs ++ ys, ?_, by rw [List.length_append]; omega, fun ns up mem => ?_⟩
    · show Rf.d (.tup (xs.map Dt.int ++ ys.map Dt.int)) = .d (.tup ((xs ++ ys).map Dt.int))
      rw [List.map_append]
    exact ⟨_, rfl, q ns up mem⟩
abbrev N_between : List Str := ["least", "greatest", "place"]
theorem sc_between : FnScope N_between ["least", "greatest"] (defScope s__between) := ⟨rfl, rfl, rfl, by decide +kernel, rfl, by decide +kernel, by decide +kernel⟩
def dBetween : XF := fun as ce Q => ∃ xs ys : List Nat, as = [.d (intsT (rowI xs)), .d (intsT (rowI ys))] ∧ ce = [] ∧ xs.length ≤ 1000 ∧ ys.length ≤ 1000 ∧ Q (.c 0) [.own (natT (ys.filter fun k => decide (k ∉ xs)))]
theorem d_between (D : Dfn K mg "_between" s__between ["least", "greatest"]) (z : Z mg) : DOk P w K mg base 1 "_between" ["least", "greatest"] dBetween := by
  refine def_ok D sc_between (fun as ce Q h => ?_) (fun f cdv A outer s H E hc hr => (dss_one (ds_ret (de_lc (own := [("place", 2)]) (fun _ => rfl) (fun _ => sc_between.nd) (di_seq (K := K) (de_var 1)) (fun _ => blkOk_by (N := N_between) (own := [("place", 2)]) (sc := defScope s__between) (by decide +kernel)) (cg_name 2 (fun _ => sc_between.nd) (fun _ => rfl) (fun _ => Or.inl rfl)) (dts_one (dt_cmp (do_nin (K := K) (fun _ => hu65 hr)) (de_var 2) (de_var 0) (by rfl))) (de_var 2))))) (fun as ce Qd h => ?_)
  · obtain ⟨xs, ys, rfl, _⟩ := h
    rfl
  · obtain ⟨xs, ys, rfl, rfl, hx, hy, q⟩ := h
    refine ⟨_, rfl, ?_⟩
    refine comp_filt (xs := rowI ys) (h := Dt.int) (fun i => decide (i ∉ rowI xs)) (fun i => .int i) (by rw [rowI_len]; omega) trivial (fun i hi R N h1 h0 => ?_) ?_
    · refine ⟨_, _, rfl, rfl, rfl, ?_, ?_⟩
      · exact List.all_eq_true.mpr fun d hd => by
          obtain ⟨k, _, rfl⟩ := List.mem_map.mp hd
          rfl
      have e : (!decide (Dt.int i ∈ (rowI xs).map Dt.int)) = decide (i ∉ rowI xs) := by
        rw [decide_not]
        congr 1
        rw [decide_eq_decide]
        exact ⟨fun h => by
          obtain ⟨j, hj, e⟩ := List.mem_map.mp h
          cases e
          exact hj, fun h => List.mem_map.mpr ⟨i, h, rfl⟩⟩
      show if (!decide (Dt.int i ∈ (rowI xs).map Dt.int)) = true then _ else _
      rw [e]
      exact ite2 (fun h => h1 h) (fun h => h0 (by simpa using h))
    have e : (((rowI ys).filter fun i => decide (i ∉ rowI xs)).map Dt.int) = natT (ys.filter fun k => decide (k ∉ xs)) := by
      unfold rowI natT
      rw [List.filter_map, List.map_map]
      congr 1
      refine List.filter_congr fun k _ => ?_
      show decide ((k : Int) ∉ xs.map fun k : Nat => (k : Int)) = _
      rw [decide_eq_decide, List.mem_map]
      exact ⟨fun h z => h ⟨k, z, rfl⟩, fun h ⟨j, hj, ej⟩ => h (by rw [← Int.ofNat_inj.mp ej]; exact hj)⟩
    show Qd (.c 0) [.own (((rowI ys).filter fun i => decide (i ∉ rowI xs)).map Dt.int)]
    rw [e]
    exact q
end
end TD
set_option Elab.async false
set_option linter.all false
set_option maxRecDepth 100000
set_option maxHeartbeats 2000000
/-! least_sides -/
namespace TD
open PySem PySem.Spec PyProof.Rows L2 TW
/-- sides that no room leads out of -/
def Shut (n : Nat) (M : Nat → Nat → Int) (S T : List Nat) (f : Nat → Bool) : Prop := TW.goesB S T f ∧ rcM n M f = 0
section
variable {ts : List Arc} {n : Nat} {S T : List Nat} {M : Nat → Nat → Int} {W : Int} {f : Nat → Bool} {p k : Nat}
theorem shut_low (F : Flow ts n S T M W) (hS : ∀ s ∈ S, s < n) (no : ∀ t ∈ T, ¬ ∃ s ∈ S, Rch n M s t) : Shut n M S T (rchB n M S) := by
  obtain ⟨g, e⟩ := F.done hS no
  have := F.eq _ g
  exact ⟨g, by omega⟩
theorem shut_in (F : Flow ts n S T M W) (h : Shut n M S T f) (r : rchB n M S k = true) : f k = true := by
  obtain ⟨s, hs, r⟩ := rch_iff.mp r
  exact (reach_in F h.2 r (h.1.1 s hs)).1
theorem shut_out (F : Flow ts n S T M W) (h : Shut n M S T f) (r : rchB n (backM M) T k = true) : f k = false := by
  obtain ⟨t, ht, r⟩ := rch_iff.mp r
  exact (reach_out F h.2 r (h.1.2 t ht)).1
theorem shut_from (F : Flow ts n S T M W) (h : Shut n M S T f) (hp : f p = true) (r : rchB n M [p] k = true) : f k = true := by
  obtain ⟨s, hs, r⟩ := rch_iff.mp r
  rw [List.mem_singleton.mp hs] at r
  exact (reach_in F h.2 r hp).1
theorem shut_join (F : Flow ts n S T M W) (h : Shut n M S T f) (hb : rchB n (backM M) T p = false) : Shut n M S T (fun k => f k || rchB n M [p] k) := by
  refine ⟨⟨fun s hs => by show (f s || _) = true; rw [h.1.1 s hs]; rfl, fun t ht => ?_⟩, rc_of fun a b ha hb2 fa fb => ?_⟩
  · show (f t || rchB n M [p] t) = false
    rw [h.1.2 t ht, Bool.false_or]
    refine rch_not.mpr fun ⟨s, hs, r⟩ => ?_
    rw [List.mem_singleton.mp hs] at r
    exact rch_not.mp hb ⟨t, ht, (reach_back (M := backM M) r).1⟩
  · have fa : (f a || rchB n M [p] a) = true := fa
    have fb : (f b || rchB n M [p] b) = false := fb
    rw [Bool.or_eq_false_iff] at fb
    rw [Bool.or_eq_true] at fa
    rcases fa with fa | fa
    · exact rc_zero F h.2 ha hb2 fa fb.1
    · obtain ⟨s, hs, r⟩ := rch_iff.mp fa
      have nn := F.nn a b ha hb2
      refine Classical.byContradiction fun c => ?_
      rw [rch_iff.mpr ⟨s, hs, .step r hb2 (by omega)⟩] at fb
      exact absurd fb.2 (fun z => nomatch z)
end
/-- the least side, and what places bring that f holds -/
noncomputable def upF (n : Nat) (M : Nat → Nat → Int) (S : List Nat) (B : List Nat) (f : Nat → Bool) : Nat → Bool := fun k => rchB n M S k || B.any fun p => f p && rchB n M [p] k
noncomputable def betwL (n : Nat) (M : Nat → Nat → Int) (S T : List Nat) : List Nat := (highS n M T).filter fun k => decide (k ∉ lowS n M S)
theorem mem_betw {n : Nat} {M : Nat → Nat → Int} {S T : List Nat} {k : Nat} : k ∈ betwL n M S T ↔ k < n ∧ rchB n (backM M) T k = false ∧ rchB n M S k = false := by
  unfold betwL
  rw [List.mem_filter, decide_eq_true_iff]
  unfold highS lowS
  rw [mem_side, mem_side, Bool.not_eq_true']
  constructor
  · rintro ⟨⟨h1, h2⟩, h3⟩
    refine ⟨h1, h2, ?_⟩
    cases e : rchB n M S k with
    | false => rfl
    | true => exact absurd ⟨h1, e⟩ h3
  · rintro ⟨h1, h2, h3⟩
    exact ⟨⟨h1, h2⟩, fun z => by rw [h3] at z; exact absurd z.2 (fun z => nomatch z)⟩
theorem up_all {ts : List Arc} {n : Nat} {S T : List Nat} {M : Nat → Nat → Int} {W : Int} {f : Nat → Bool} (F : Flow ts n S T M W) (h : Shut n M S T f) : plcN n (upF n M S (betwL n M S T) f) = plcN n f := by
  refine List.filter_congr fun k hk => ?_
  have hk := List.mem_range.mp hk
  rw [Bool.eq_iff_iff]
  unfold upF
  rw [Bool.or_eq_true, List.any_eq_true]
  constructor
  · rintro (r | ⟨p, _, hp⟩)
    · exact shut_in F h r
    · rw [Bool.and_eq_true] at hp
      exact shut_from F h hp.1 hp.2
  · intro fk
    by_cases c : rchB n M S k = true
    · exact .inl c
    · refine .inr ⟨k, mem_betw.mpr ⟨hk, ?_, by simpa using c⟩, by rw [fk, rch_iff.mpr ⟨k, List.mem_cons_self, .refl hk⟩]; rfl⟩
      cases e : rchB n (backM M) T k with
      | false => rfl
      | true => rw [shut_out F h e] at fk; cases fk
/-! the dict's keys -/
def entS (l : List Nat) : List Key × V := ((rowI l).map .inl, .bl true)
theorem key_inj {l x : List Nat} (h : (rowI l).map (Sum.inl : Int → Key) = (rowI x).map .inl) : l = x := by
  unfold rowI at h
  rw [List.map_map, List.map_map] at h
  refine List.ext_getElem? fun i => ?_
  have := congrArg (·[i]?) h
  simp only [List.getElem?_map] at this
  cases h1 : l[i]? with
  | none =>
    rw [h1] at this
    cases h2 : x[i]? with
    | none => rfl
    | some y => rw [h2] at this; cases this
  | some y =>
    rw [h1] at this
    cases h2 : x[i]? with
    | none => rw [h2] at this; cases this
    | some z =>
      rw [h2] at this
      have e : (y : Int) = (z : Int) := Sum.inl.inj (Option.some.inj this)
      rw [Int.ofNat_inj.mp e]
def addL (Ls : List (List Nat)) (x : List Nat) : List (List Nat) := if x ∈ Ls then Ls else Ls ++ [x]
theorem mem_add {Ls : List (List Nat)} {x y : List Nat} : y ∈ addL Ls x ↔ y ∈ Ls ∨ y = x := by
  unfold addL
  split
  · exact ⟨.inl, fun h => h.elim id fun e => by rw [e]; assumption⟩
  · rw [List.mem_append, List.mem_singleton]
theorem nd_add {Ls : List (List Nat)} {x : List Nat} (h : Ls.Nodup) : (addL Ls x).Nodup := by
  unfold addL
  split
  · exact h
  · rename_i n
    refine List.nodup_append.mpr ⟨h, List.nodup_cons.mpr ⟨List.not_mem_nil, List.nodup_nil⟩, fun a ha b hb e => n ?_⟩
    rw [← List.mem_singleton.mp hb, ← e]
    exact ha
theorem len_add (Ls : List (List Nat)) (x : List Nat) : (addL Ls x).length ≤ Ls.length + 1 := by
  unfold addL
  split
  · omega
  · rw [List.length_append]
    exact Nat.le_refl _
theorem put_sides (Ls : List (List Nat)) (x : List Nat) : putK (Ls.map entS) ((rowI x).map .inl) (.bl true) = (addL Ls x).map entS := by
  unfold putK addL
  by_cases c : x ∈ Ls
  · rw [if_pos, if_pos c]
    · rw [List.map_map]
      refine List.map_congr_left fun l hl => ?_
      show (if (entS l).1 = _ then ((entS l).1, V.bl true) else entS l) = entS l
      split <;> rfl
    · rw [List.any_eq_true]
      exact ⟨entS x, List.mem_map.mpr ⟨x, c, rfl⟩, decide_eq_true rfl⟩
  · rw [if_neg, if_neg c, List.map_append]
    · rfl
    · rw [List.any_eq_true]
      rintro ⟨e, he, h⟩
      obtain ⟨l, hl, rfl⟩ := List.mem_map.mp he
      have := key_inj (of_decide_eq_true h)
      exact c (this ▸ hl)
theorem keys_sides (Ls : List (List Nat)) : (Ls.map entS).map (·.1) = (Ls.map rowI).map (·.map .inl) := by
  rw [List.map_map, List.map_map]
  rfl
/-- what stands in the dict behind the first i places -/
structure SidesAt (n : Nat) (M : Nat → Nat → Int) (S T : List Nat) (B : List Nat) (Ls : List (List Nat)) : Prop where
  nd : Ls.Nodup
  shut : ∀ L ∈ Ls, ∃ f, Shut n M S T f ∧ L = plcN n f
  all : ∀ f, Shut n M S T f → plcN n (upF n M S B f) ∈ Ls
section
variable {P : Program} {w : World} {K : PySem.W.Frag} {mg : Str → Option Value} {base : Heap} {C : Addr}
abbrev N_least_sides : List Str := ["web", "must", "never", "rooms", "least", "greatest", "found", "place", "brought", "side"]
theorem sc_least_sides : FnScope N_least_sides ["web", "must", "never"] (defScope s_least_sides) := ⟨rfl, rfl, rfl, by decide +kernel, rfl, by decide +kernel, by decide +kernel⟩
def dLeastSides (C : Addr) : XF := fun as ce Q => ∃ (n : Nat) (ts : List Arc) (S T : List Nat), as = [.d (webT C n ts), .d (.tup (natT S)), .d (.tup (natT T))] ∧ ce = [] ∧ Net n ts ∧ n ≤ 10 ∧ SideOk n S ∧ SideOk n T ∧ (∀ s ∈ S, s ∉ T) ∧
  ∀ (M : Nat → Nat → Int) (W : Int) (Ls : List (List Nat)), Flow ts n S T M W → (∀ t ∈ T, ¬ ∃ s ∈ S, Rch n M s t) → Ls.Nodup → (Ls.map rowI).Pairwise (fun x y => HT.lexLt y x = false) → (∀ L, L ∈ Ls ↔ ∃ f, Shut n M S T f ∧ L = plcN n f) → Q (.c 0) [.own (Ls.map fun L => intsT (rowI L))]
theorem g_least_sides {f : Addr} {fd : FuncData} (D : Fun K "least_sides" "least_sides" s_least_sides f fd) (z : Z mg) (O_check_between : DOk P w K mg base 7 "_check_between" ["web", "must", "never"] (dCheckBetween C)) (O_rooms_left : DOk P w K mg base 4 "_rooms_left" ["web", "must", "never"] (dLeft C)) (O_outermost_sides : DOk P w K mg base 2 "_outermost_sides" ["rooms", "must", "never"] dOuter)
    (O_between : DOk P w K mg base 1 "_between" ["least", "greatest"] dBetween) (O_ways_from : DOk P w K mg base 1 "ways_from" ["starts", "rooms"] dWays) (O_side_with : DOk P w K mg base 1 "side_with" ["side", "places"] dSideWith) : FnG P w K mg base 8 f fd ["web", "must", "never"] (spOf (dLeastSides C)) := by
  refine def_g D sc_least_sides (fun as ce Q h => ?_) (fun f cdv A outer s H E hc hr => (dss_cons (ds_expr (de_p (fun _ => O_check_between) (fun _ => hc) (fun _ => hr.mono (by decide)) (da_cons (de_var 0) (da_cons (de_var 1) (da_cons (de_var 2) da_nil)))))
      (dss_cons (ds_set 3 (fun _ => sc_least_sides.nd) (fun _ => rfl) (fun _ => Or.inl rfl) (de_p (fun _ => O_rooms_left) (fun _ => hc) (fun _ => hr.mono (by decide)) (da_cons (de_var 0) (da_cons (de_var 1) (da_cons (de_var 2) da_nil)))))
      (dss_cons (ds_asg (de_p (fun _ => O_outermost_sides) (fun _ => hc) (fun _ => hr.mono (by decide)) (da_cons (de_var 3) (da_cons (de_var 1) (da_cons (de_var 2) da_nil)))) (dg_tup (K := K) (n := 2) (fun _ => rfl) (dgs_cons (dg_name 4 (fun _ => sc_least_sides.nd) (fun _ => rfl) (fun _ => Or.inl rfl)) (dgs_cons (dg_name 5 (fun _ => sc_least_sides.nd) (fun _ => rfl) (fun _ => Or.inl rfl)) dgs_nil))))
      (dss_cons (ds_set 6 (fun _ => sc_least_sides.nd) (fun _ => rfl) (fun _ => Or.inl rfl) (de_disp (fun _ => hr.units) (de_var 4) de_bl))
      (dss_cons (ds_for (fun _ => PassesOwn.never) (fun _ => rfl) (di_seq (K := K) (de_p (fun _ => O_between) (fun _ => hc) (fun _ => hr.mono (by decide)) (da_cons (de_var 4) (da_cons (de_var 5) da_nil)))) (dg_name 7 (fun _ => sc_least_sides.nd) (fun _ => rfl) (fun _ => Or.inl rfl))
        (dss_cons (ds_set 8 (fun _ => sc_least_sides.nd) (fun _ => rfl) (fun _ => Or.inl rfl) (de_callTy dc_tupDK (fun _ => rfl) (fun _ => z.tuple) (by decide +kernel) (da_cons (de_p (fun _ => O_ways_from) (fun _ => hc) (fun _ => hr.mono (by decide)) (da_cons (de_lst (da_cons (de_var 7) da_nil)) (da_cons (de_var 3) da_nil))) da_nil)))
      (dss_one (ds_for (fun _ => PassesOwn.never) (fun _ => rfl) (di_seq (K := K) (de_callTy dc_listDT (fun _ => rfl) (fun _ => z.list) (by decide +kernel) (da_cons (de_var 6) da_nil))) (dg_name 9 (fun _ => sc_least_sides.nd) (fun _ => rfl) (fun _ => Or.inl rfl))
        (dss_one (ds_dput (fun _ => hr.units) (de_var 6) (de_p (fun _ => O_side_with) (fun _ => hc) (fun _ => hr.mono (by decide)) (da_cons (de_var 9) (da_cons (de_var 8) da_nil))) de_bl))))))
      (dss_one (ds_ret (de_callB (dc_sortDT (fun _ => hr.units)) (fun _ => rfl) (fun _ => z.sorted) (by decide +kernel) (da_cons (de_var 6) da_nil)))))))))) (fun as ce Qd h => ?_)
  · obtain ⟨n, ts, S, T, rfl, _⟩ := h
    rfl
  · obtain ⟨n, ts, S, T, rfl, rfl, net, hn, hS, hT, ap, q⟩ := h
    refine ⟨_, rfl, n, ts, S, T, rfl, rfl, by omega, hS, hT, ap, ?_⟩
    refine ⟨_, rfl, n, ts, S, T, rfl, rfl, net, hS, hT, ap, fun M W fl no => ?_⟩
    refine ⟨_, rfl, n, M, S, T, rfl, rfl, by omega, hS, hT, ?_⟩
    refine ⟨rfl, ?_⟩
    refine ⟨rowI (lowS n M S), .bl true, .bl true, rfl, rfl, rfl, ?_⟩
    refine ⟨_, rfl, lowS n M S, highS n M T, rfl, rfl, by have := (low_ok n M S).len; omega, by have := (high_ok n M T).len; omega, ?_⟩
    have nS : ∀ s ∈ S, s < n := hS.lt
    refine ⟨_, rfl, Nat.lt_succ_self _, ?_⟩
    have lB : (betwL n M S T).length ≤ n := by
      exact Nat.le_trans (List.length_filter_le _ _) (high_ok n M T).len
    show forB _ _ _ (natT (betwL n M S T)) _ _ ⟨[some (.d (webT C n ts)), some (.d (.tup (natT S))), some (.d (.tup (natT T))), some (.d (roomsT n M)), some (.d (intsT (rowI (lowS n M S)))), some (.d (intsT (rowI (highS n M T)))), some (.c 0), none, none, none], [.any (.dT ([lowS n M S].map entS)), .own (natT (betwL n M S T))]⟩
    refine for_seq (xs := betwL n M S T) (h := fun k : Nat => Dt.int (k : Int)) (fun i s => ∃ (Ls : List (List Nat)) (v7 v8 v9 : Option Rf), s = ⟨[some (.d (webT C n ts)), some (.d (.tup (natT S))), some (.d (.tup (natT T))), some (.d (roomsT n M)), some (.d (intsT (rowI (lowS n M S)))), some (.d (intsT (rowI (highS n M T)))), some (.c 0), v7, v8, v9], [.any (.dT (Ls.map entS)), .own (natT (betwL n M S T))]⟩ ∧ SidesAt n M S T ((betwL n M S T).take i) Ls ∧ Ls.length ≤ 2 ^ i)
      ⟨[lowS n M S], none, none, none, rfl, ⟨List.nodup_cons.mpr ⟨List.not_mem_nil, List.nodup_nil⟩, fun L hL => ⟨_, shut_low fl nS no, List.mem_singleton.mp hL⟩, fun f _ => List.mem_singleton.mpr (List.filter_congr fun k _ => Bool.or_false _)⟩, Nat.le_refl _⟩ ?_ ?_ ?_
    · rintro i s hi ⟨Ls, v7, v8, v9, rfl, _⟩
      rfl
    · rintro i p s hp ⟨Ls, v7, v8, v9, rfl, at_, len⟩
      have pB : p ∈ betwL n M S T := List.mem_of_getElem? hp
      obtain ⟨p1, p2, p3⟩ := mem_betw.mp pB
      have iB : i < (betwL n M S T).length := (List.getElem?_eq_some_iff.mp hp).1
      have l1 : 2 ^ i ≤ 2 ^ 9 := Nat.pow_le_pow_right (by decide) (by omega)
      have l2 : Ls.length ≤ 512 := Nat.le_trans len l1
      refine ⟨rfl, ?_⟩
      refine ⟨_, rfl, n, M, [p], rfl, rfl, by omega, List.nodup_cons.mpr ⟨List.not_mem_nil, List.nodup_nil⟩, fun s hs => by rw [List.mem_singleton.mp hs]; exact p1, fun ks fw => ?_⟩
      have kl : ks.length ≤ n := fw.way.len fun s hs => by rw [List.mem_singleton.mp hs]; exact p1
      have km : ∀ k, k ∈ ks.map (·.1) ↔ rchB n M [p] k = true := fun k => by
        rw [fw.mem (fun s hs => by rw [List.mem_singleton.mp hs]; exact p1) k, rch_iff]
      refine ⟨3, _, rowI (ks.map (·.1)), rfl, rfl, by unfold rowI; rw [List.map_map, List.map_map, List.map_map]; rfl, ?_⟩
      refine ⟨0, _, Ls.map rowI, rfl, rfl, keys_sides Ls, ?_⟩
      refine ⟨_, rfl, Nat.lt_succ_self _, ?_⟩
      rw [List.map_map]
      refine for_seq (xs := Ls) (h := intsT ∘ rowI) (fun j s => ∃ (Ls' : List (List Nat)) (v9 : Option Rf), s = ⟨[some (.d (webT C n ts)), some (.d (.tup (natT S))), some (.d (.tup (natT T))), some (.d (roomsT n M)), some (.d (intsT (rowI (lowS n M S)))), some (.d (intsT (rowI (highS n M T)))), some (.c 0), some (.d (.int (p : Nat))), some (.d (intsT (rowI (ks.map (·.1))))), v9], [.any (.dT (Ls'.map entS)), .own (natT (betwL n M S T)), .own [.int (p : Nat)], .any (.dK (ks.map entW)), .own (Ls.map (intsT ∘ rowI))]⟩ ∧
          Ls'.Nodup ∧ (∀ L ∈ Ls', ∃ f, Shut n M S T f ∧ L = plcN n f) ∧ (∀ L ∈ Ls, L ∈ Ls') ∧ (∀ m L, m < j → Ls[m]? = some L → ∀ g : Nat → Bool, L = plcN n g → plcN n (fun k => g k || rchB n M [p] k) ∈ Ls') ∧ Ls'.length ≤ Ls.length + j)
        ⟨Ls, v9, rfl, at_.nd, at_.shut, fun L h => h, fun m L h => absurd h (Nat.not_lt_zero _), Nat.le_refl _⟩ ?_ ?_ ?_
      · rintro j s hj ⟨Ls', v9, rfl, _⟩
        rfl
      · rintro j L s hL ⟨Ls', v9, rfl, nd', sh', sub', done', len'⟩
        obtain ⟨f0, sf0, rfl⟩ := at_.shut L (List.mem_of_getElem? hL)
        have jl : j < Ls.length := (List.getElem?_eq_some_iff.mp hL).1
        have sl0 := side_len n f0
        refine ⟨_, rfl, rowI (plcN n f0), rowI (ks.map (·.1)), rfl, rfl, by rw [rowI_len, rowI_len, List.length_map]; omega, fun ns up mem => ?_⟩
        have en : ns = rowI (plcN n fun k => f0 k || rchB n M [p] k) := by
          refine strict_ext (fun x y a b => by omega) up (side_up n _) fun k => ?_
          rw [mem k, List.mem_append]
          unfold rowI
          rw [List.mem_map, List.mem_map, List.mem_map]
          constructor
          · rintro (⟨x, hx, rfl⟩ | ⟨x, hx, rfl⟩)
            · obtain ⟨h1, h2⟩ := mem_side.mp hx
              exact ⟨x, mem_side.mpr ⟨h1, by rw [h2]; rfl⟩, rfl⟩
            · have hr := (km x).mp hx
              obtain ⟨q0, hq0, r0⟩ := rch_iff.mp hr
              exact ⟨x, mem_side.mpr ⟨by cases r0 <;> assumption, by rw [hr, Bool.or_true]⟩, rfl⟩
          · rintro ⟨x, hx, rfl⟩
            obtain ⟨h1, h2⟩ := mem_side.mp hx
            rw [Bool.or_eq_true] at h2
            rcases h2 with h2 | h2
            · exact .inl ⟨x, mem_side.mpr ⟨h1, h2⟩, rfl⟩
            · exact .inr ⟨x, (km x).mpr h2, rfl⟩
        subst en
        refine ⟨0, Ls'.map entS, rowI (plcN n fun k => f0 k || rchB n M [p] k), .bl true, .bl true, rfl, rfl, rfl, rfl, rfl, by rw [List.length_map]; omega, ?_⟩
        refine .inl ⟨addL Ls' (plcN n fun k => f0 k || rchB n M [p] k), some (.d (intsT (rowI (plcN n f0)))), ?_, nd_add nd', fun L hL => ?_, fun L hL => mem_add.mpr (.inl (sub' L hL)), fun m L hm hL2 g eg => ?_, by have := len_add Ls' (plcN n fun k => f0 k || rchB n M [p] k); omega⟩
        · show (⟨_, [.any (.dT (putK (Ls'.map entS) ((rowI (plcN n fun k => f0 k || rchB n M [p] k)).map .inl) (.bl true))), _, _, _, _]⟩ : Ds) = _
          rw [put_sides]
          rfl
        · rcases mem_add.mp hL with h | h
          · exact sh' L h
          · exact ⟨_, shut_join fl sf0 p2, h⟩
        · by_cases c : m < j
          · exact mem_add.mpr (.inl (done' m L c hL2 g eg))
          · rw [show m = j by omega, hL] at hL2
            refine mem_add.mpr (.inr ?_)
            have e0 : plcN n f0 = plcN n g := (Option.some.inj hL2).trans eg
            refine List.filter_congr fun k hk => ?_
            have hk := List.mem_range.mp hk
            have : f0 k = g k := by
              rw [Bool.eq_iff_iff]
              constructor
              · intro h
                have := mem_side.mpr ⟨hk, h⟩
                rw [e0] at this
                exact (mem_side.mp this).2
              · intro h
                have := mem_side.mpr ⟨hk, h⟩
                rw [← e0] at this
                exact (mem_side.mp this).2
            rw [this]
      · rintro s ⟨Ls', v9, rfl, nd', sh', sub', done', len'⟩
        have fin : ∀ {E : Ed} {n0 : Nat} {I : Ds → Prop}, E.nx = nxt n0 I → n0 ≤ 5 → I (gcS (List.range n0) ⟨[some (.d (webT C n ts)), some (.d (.tup (natT S))), some (.d (.tup (natT T))), some (.d (roomsT n M)), some (.d (intsT (rowI (lowS n M S)))), some (.d (intsT (rowI (highS n M T)))), some (.c 0), some (.d (.int (p : Nat))), some (.d (intsT (rowI (ks.map (·.1))))), v9], [.any (.dT (Ls'.map entS)), .own (natT (betwL n M S T)), .own [.int (p : Nat)], .any (.dK (ks.map entW)), .own (Ls.map (intsT ∘ rowI))]⟩) → E.nx ⟨[some (.d (webT C n ts)), some (.d (.tup (natT S))), some (.d (.tup (natT T))), some (.d (roomsT n M)), some (.d (intsT (rowI (lowS n M S)))), some (.d (intsT (rowI (highS n M T)))), some (.c 0), some (.d (.int (p : Nat))), some (.d (intsT (rowI (ks.map (·.1))))), v9], [.any (.dT (Ls'.map entS)), .own (natT (betwL n M S T)), .own [.int (p : Nat)], .any (.dK (ks.map entW)), .own (Ls.map (intsT ∘ rowI))]⟩ := fun e h hI => nx_take e h hI
        refine fin (E := { nx := nxt _ _, rt := _, bk := _, ct := _, n0 := _ }) rfl (Nat.le_of_ble_eq_true rfl) ?_
        refine ⟨Ls', _, _, _, rfl, ⟨nd', sh', fun f sf => ?_⟩, by rw [Nat.pow_succ]; omega⟩
        have old := at_.all f sf
        obtain ⟨m, hm⟩ := List.mem_iff_getElem?.mp old
        have ml : m < Ls.length := (List.getElem?_eq_some_iff.mp hm).1
        cases ef : f p with
        | false =>
          have e : plcN n (upF n M S ((betwL n M S T).take (i + 1)) f) = plcN n (upF n M S ((betwL n M S T).take i) f) := by
            refine List.filter_congr fun k _ => ?_
            unfold upF
            rw [take_snoc hp, List.any_append, List.any_cons, List.any_nil, ef]
            simp
          rw [e]
          exact sub' _ old
        | true =>
          have e : plcN n (upF n M S ((betwL n M S T).take (i + 1)) f) = plcN n (fun k => upF n M S ((betwL n M S T).take i) f k || rchB n M [p] k) := by
            refine List.filter_congr fun k _ => ?_
            unfold upF
            rw [take_snoc hp, List.any_append, List.any_cons, List.any_nil, ef]
            simp [Bool.or_assoc]
          rw [e]
          exact done' m _ ml hm _ rfl
    · rintro s ⟨Ls, v7, v8, v9, rfl, at_, len⟩
      rw [List.take_length] at at_
      refine ⟨0, _, Ls.map rowI, rfl, rfl, keys_sides Ls, fun ks' pm pw => ?_⟩
      obtain ⟨Ls', pL, rfl⟩ := perm_mapC pm
      show retQ 0 Qd (.c 2) [.any (.dT (Ls.map entS)), .own (natT (betwL n M S T)), .own ((Ls'.map rowI).map intsT)]
      refine ret_own rfl ?_
      rw [List.map_map]
      refine q M W Ls' fl no (pL.nodup_iff.mpr at_.nd) pw fun L => ?_
      rw [pL.mem_iff]
      constructor
      · exact at_.shut L
      · rintro ⟨f, sf, rfl⟩
        have := at_.all f sf
        rw [up_all fl sf] at this
        exact this
theorem kb_least_sides {f : Addr} {fd : FuncData} (F : Fun K "least_sides" "least_sides" s_least_sides f fd) : KBinds K fd ["web", "must", "never"] ["never", "must", "web"] (selK [2, 1, 0]) (selK [2, 1, 0]) := by
  refine ⟨fun s us ws _ hl => ?_, selK_rel _⟩
  obtain ⟨oc, od, kV, doc, pm, an, cdv, ct, osl, rfl, lk, hcd⟩ := F.ex
  refine .of_eq ?_
  match us, ws, hl with
  | [], a :: b :: c :: _, _ => rfl
theorem d_least_sides (D : Dfn K mg "least_sides" s_least_sides ["web", "must", "never"]) (h : ∀ f fd, Fun K "least_sides" "least_sides" s_least_sides f fd → FnG P w K mg base 8 f fd ["web", "must", "never"] (spOf (dLeastSides C))) :
    DOk P w K mg base 8 "least_sides" ["web", "must", "never"] (dLeastSides C) ∧ KOk P w K mg base 8 "least_sides" ["web", "must", "never"] ["never", "must", "web"] [2, 1, 0] (dLeastSides C) := by
  obtain ⟨f, fd, F, g, b⟩ := D
  exact ⟨⟨f, fd, h f fd F, g, F.kp, b⟩, f, fd, h f fd F, g, F.kp, kb_least_sides F⟩
end
end TD
set_option Elab.async false
set_option linter.all false
set_option maxRecDepth 100000
set_option maxHeartbeats 1000000
/-! masks, cuts, due sides -/
namespace TD
open PySem PySem.Spec PyProof.Rows L2 TW
section
variable {P : Program} {w : World} {K : PySem.W.Frag} {mg : Str → Option Value} {base : Heap} {C : Addr}
abbrev N_law_has : List Str := ["mask", "k"]
theorem sc_law_has : FnScope N_law_has ["mask", "k"] (defScope s__law_has) := ⟨rfl, rfl, rfl, by decide +kernel, rfl, by decide +kernel, by decide +kernel⟩
def dHas : XF := fun as ce Q => ∃ m k : Nat, as = [.d (.int m), .d (.int k)] ∧ ce = [] ∧ Q (.d (.bl (m.testBit k))) []
theorem d_has (D : Dfn K mg "_law_has" s__law_has ["mask", "k"]) : DOk P w K mg base 1 "_law_has" ["mask", "k"] dHas := by
  refine def_ok D sc_law_has (fun as ce Q h => ?_) (fun f cdv A outer s H E hc hr => (dss_one (ds_ret (de_cmp (do_eq (K := K) (fun _ => hr.units)) (de_op do_and (de_op do_shr (de_var 0) (de_var 1)) de_int) de_int (nomark _))))) (fun as ce Qd h => ?_)
  · obtain ⟨m, k, rfl, _⟩ := h
    rfl
  · obtain ⟨m, k, rfl, rfl, q⟩ := h
    refine ⟨by show (0 : Int) ≤ k; omega, ?_⟩
    show Qd (.d (.bl (decide (Builtin.bitAnd ((m : Int) / 2 ^ ((k : Int)).toNat) 1 = 1)))) []
    rw [bit1]
    exact q
abbrev N_law_mask_of : List Str := ["row", "k"]
theorem sc_law_mask_of : FnScope N_law_mask_of ["row"] (defScope s__law_mask_of) := ⟨rfl, rfl, rfl, by decide +kernel, rfl, by decide +kernel, by decide +kernel⟩
def maskN (l : List Nat) : Nat := (l.map fun k => 2 ^ k).sum
def dMaskOf : XF := fun as ce Q => ∃ l : List Nat, as = [.d (.tup (natT l))] ∧ ce = [] ∧ l.length ≤ 1000 ∧ (∀ k ∈ l, k ≤ 1000) ∧ Q (.d (.int (maskN l))) []
theorem d_mask_of (D : Dfn K mg "_law_mask_of" s__law_mask_of ["row"]) (z : Z mg) (z_sum : mg "sum" = none) : DOk P w K mg base 1 "_law_mask_of" ["row"] dMaskOf := by
  refine def_ok D sc_law_mask_of (fun as ce Q h => ?_) (fun f cdv A outer s H E hc hr => (dss_one (ds_ret (de_callB (dc_sum (K := K)) (fun _ => rfl) (fun _ => z_sum) (by decide +kernel) (da_cons (de_lc (own := [("k", 1)]) (fun _ => rfl) (fun _ => sc_law_mask_of.nd) (di_seq (K := K) (de_var 0)) (fun _ => blkOk_by (N := N_law_mask_of) (own := [("k", 1)]) (sc := defScope s__law_mask_of) (by decide +kernel)) (cg_name 1 (fun _ => sc_law_mask_of.nd) (fun _ => rfl) (fun _ => Or.inl rfl)) dts_nil (de_op do_shl de_int (de_var 1))) da_nil))))) (fun as ce Qd h => ?_)
  · obtain ⟨l, rfl, _⟩ := h
    rfl
  · obtain ⟨l, rfl, rfl, hl, hk, q⟩ := h
    refine ⟨_, rfl, ?_⟩
    refine comp_map (xs := l) (h := fun k : Nat => Dt.int (k : Int)) (fun k => .int ((2 ^ k : Nat) : Int)) (by omega) trivial (fun k hm R hR => ?_) ?_
    · refine ⟨⟨by omega, by have := hk k hm; omega, by decide⟩, ?_⟩
      have e : ((1 : Int) * 2 ^ ((k : Int)).toNat) = ((2 ^ k : Nat) : Int) := by rw [Int.toNat_natCast, Int.one_mul]; push_cast; rfl
      show R (.d (.int ((1 : Int) * 2 ^ ((k : Int)).toNat))) []
      rw [e]
      exact hR
    refine ⟨l.map fun k => ((2 ^ k : Nat) : Int), by rw [List.map_map]; rfl, ?_⟩
    have e : (l.map fun k => ((2 ^ k : Nat) : Int)).sum = (maskN l : Nat) := by
      unfold maskN
      rw [← sum_cast, List.map_map]
      rfl
    show Qd (.d (.int (l.map fun k => ((2 ^ k : Nat) : Int)).sum)) []
    rw [e]
    exact q
abbrev N_law_cut : List Str := ["ropes", "mask", "a", "b", "w"]
theorem sc_law_cut : FnScope N_law_cut ["ropes", "mask"] (defScope s__law_cut) := ⟨rfl, rfl, rfl, by decide +kernel, rfl, by decide +kernel, by decide +kernel⟩
def dCut : XF := fun as ce Q => ∃ (A : List Arc) (m : Nat), as = [.d (.lst (A.map arcT)), .d (.int m)] ∧ ce = [] ∧ A.length ≤ 1000 ∧ Q (.d (.int (cutA A m.testBit))) []
theorem d_cut (D : Dfn K mg "_law_cut" s__law_cut ["ropes", "mask"]) (z : Z mg) (z_sum : mg "sum" = none) (O_law_has : DOk P w K mg base 1 "_law_has" ["mask", "k"] dHas) : DOk P w K mg base 2 "_law_cut" ["ropes", "mask"] dCut := by
  refine def_ok D sc_law_cut (fun as ce Q h => ?_) (fun f cdv A outer s H E hc hr => (dss_one (ds_ret (de_callB (dc_sum (K := K)) (fun _ => rfl) (fun _ => z_sum) (by decide +kernel) (da_cons (de_lc (own := [("a", 2), ("b", 3), ("w", 4)]) (fun _ => rfl) (fun _ => sc_law_cut.nd) (di_seq (K := K) (de_var 0)) (fun _ => blkOk_by (N := N_law_cut) (own := [("a", 2), ("b", 3), ("w", 4)]) (sc := defScope s__law_cut) (by decide +kernel)) (cg_tup (K := K) (n := 3) (fun _ => rfl) (cgs_cons (cg_name 2 (fun _ => sc_law_cut.nd) (fun _ => rfl) (fun _ => Or.inl rfl)) (cgs_cons (cg_name 3 (fun _ => sc_law_cut.nd) (fun _ => rfl) (fun _ => Or.inl rfl)) (cgs_cons (cg_name 4 (fun _ => sc_law_cut.nd) (fun _ => rfl) (fun _ => Or.inl rfl)) cgs_nil)))) (dts_one (dt_cmp (do_ne (K := K) (fun _ => hr.units)) (de_p (fun _ => O_law_has) (fun _ => hc) (fun _ => hr.mono (by decide)) (da_cons (de_var 1) (da_cons (de_var 2) da_nil))) (de_p (fun _ => O_law_has) (fun _ => hc) (fun _ => hr.mono (by decide)) (da_cons (de_var 1) (da_cons (de_var 3) da_nil))) (nomark _))) (de_var 4)) da_nil))))) (fun as ce Qd h => ?_)
  · obtain ⟨A, m, rfl, _⟩ := h
    rfl
  · obtain ⟨A, m, rfl, rfl, hl, q⟩ := h
    refine ⟨_, rfl, ?_⟩
    refine comp_filt (xs := A) (h := arcT) (fun t => m.testBit t.1 != m.testBit t.2.1) (fun t => .int t.2.2) (by omega) trivial (fun t ht R N h1 h0 => ⟨rfl, ?_⟩) ?_
    · refine ⟨_, rfl, m, t.1, rfl, rfl, ?_⟩
      refine ⟨_, rfl, m, t.2.1, rfl, rfl, ?_⟩
      have e : (!decide (m.testBit t.1 = m.testBit t.2.1)) = (m.testBit t.1 != m.testBit t.2.1) := by
        cases m.testBit t.1 <;> cases m.testBit t.2.1 <;> rfl
      show if (!decide (m.testBit t.1 = m.testBit t.2.1)) = true then _ else _
      rw [e]
      exact ite2 (fun h => h1 h) (fun h => h0 (by simpa using h))
    refine ⟨(A.filter fun t => m.testBit t.1 != m.testBit t.2.1).map fun t => ((t.2.2 : Nat) : Int), by rw [List.map_map]; rfl, ?_⟩
    have e : ((A.filter fun t => m.testBit t.1 != m.testBit t.2.1).map fun t => ((t.2.2 : Nat) : Int)).sum = (cutA A m.testBit : Nat) := by
      unfold cutA
      rw [← sum_cast, List.map_map]
      rfl
    show Qd (.d (.int ((A.filter fun t => m.testBit t.1 != m.testBit t.2.1).map fun t => ((t.2.2 : Nat) : Int)).sum)) []
    rw [e]
    exact q
/-- the sorted rows of these lots -/
def dDueSides : XF := fun as ce Q => ∃ (n a b : Nat) (A : List Arc), as = [.d (.lst (sumsT n A)), .d (.tup [.int a, .int b]), .d (.int n)] ∧ ce = [] ∧ n ≤ 9 ∧ a < 2 ^ n ∧ a &&& b = 0 ∧
  ∀ (low : Nat) (Ls : List (List Nat)), (∃ m, m < 2 ^ n ∧ goesB a b m = true ∧ cutA A m.testBit = low) → (∀ m, m < 2 ^ n → goesB a b m = true → low ≤ cutA A m.testBit) → Ls.Perm (((List.range (2 ^ n)).filter fun m => goesB a b m && decide (cutA A m.testBit = low)).map fun m => bitsL m n) → (Ls.map rowI).Pairwise (fun x y => HT.lexLt y x = false) → Q (.c 0) [.own (Ls.map fun L => intsT (rowI L))]
abbrev N_law_due_sides : List Str := ["sums", "pins", "size", "mask"]
theorem sc_law_due_sides : FnScope N_law_due_sides ["sums", "pins", "size"] (defScope s__law_due_sides) := ⟨rfl, rfl, rfl, by decide +kernel, rfl, by decide +kernel, by decide +kernel⟩
theorem d_due_sides (D : Dfn K mg "_law_due_sides" s__law_due_sides ["sums", "pins", "size"]) (z : Z mg) (O_law_lows : DOk P w K mg base 1 "_law_lows" ["sums", "pins"] dLows) (O_law_row_of : DOk P w K mg base 1 "_law_row_of" ["mask", "many"] dRowOf) : DOk P w K mg base 2 "_law_due_sides" ["sums", "pins", "size"] dDueSides := by
  refine def_ok D sc_law_due_sides (fun as ce Q h => ?_) (fun f cdv A outer s H E hc hr => (dss_one (ds_ret (de_callB (dc_sortT (K := K) (fun _ => hr.units)) (fun _ => rfl) (fun _ => z.sorted) (by decide +kernel) (da_cons (de_lc (own := [("mask", 3)]) (fun _ => rfl) (fun _ => sc_law_due_sides.nd) (di_seq (K := K) (de_ix (K := K) (de_p (fun _ => O_law_lows) (fun _ => hc) (fun _ => hr.mono (by decide)) (da_cons (de_var 0) (da_cons (de_var 1) da_nil))) de_int (fun _ _ => rfl))) (fun _ => blkOk_by (N := N_law_due_sides) (own := [("mask", 3)]) (sc := defScope s__law_due_sides) (by decide +kernel)) (cg_name 3 (fun _ => sc_law_due_sides.nd) (fun _ => rfl) (fun _ => Or.inl rfl)) dts_nil (de_p (fun _ => O_law_row_of) (fun _ => hc) (fun _ => hr.mono (by decide)) (da_cons (de_var 3) (da_cons (de_var 2) da_nil)))) da_nil))))) (fun as ce Qd h => ?_)
  · obtain ⟨n, a, b, A, rfl, _⟩ := h
    rfl
  · obtain ⟨n, a, b, A, rfl, rfl, hn, ha, hab, q⟩ := h
    have pw : 2 ^ n ≤ 512 := Nat.pow_le_pow_right (n := 2) (by decide) (show n ≤ 9 by omega)
    refine ⟨_, rfl, 2 ^ n, a, b, fun m => cutA A m.testBit, rfl, rfl, by omega, ⟨a, ha, ?_⟩, fun low hlow hle => ?_⟩
    · unfold goesB
      rw [Nat.and_self, decide_eq_true rfl, decide_eq_true hab]
      rfl
    refine ⟨_, _, _, rfl, rfl, at_nat (i := 1) rfl, ?_⟩
    refine ⟨_, rfl, ?_⟩
    have lG : ((List.range (2 ^ n)).filter fun m => goesB a b m && decide (cutA A m.testBit = low)).length ≤ 2 ^ n := by
      have := List.length_filter_le (fun m => goesB a b m && decide (cutA A m.testBit = low)) (List.range (2 ^ n))
      rw [List.length_range] at this
      exact this
    refine comp_map (xs := (List.range (2 ^ n)).filter fun m => goesB a b m && decide (cutA A m.testBit = low)) (h := fun k : Nat => Dt.int (k : Int)) (fun m => .tup (natT (bitsL m n))) (by omega) trivial (fun m hm R hR => ?_) ?_
    · exact ⟨_, rfl, m, n, rfl, rfl, by omega, hR⟩
    refine ⟨_, rfl, ⟨.inr fun d hd => ?_, fun d hd => ?_⟩, fun ds pm up => ?_⟩
    · obtain ⟨m, _, rfl⟩ := List.mem_map.mp hd
      exact ⟨rowI (bitsL m n), row_ints _⟩
    · obtain ⟨m, _, rfl⟩ := List.mem_map.mp hd
      show (natT (bitsL m n)).all (pl 19) = true
      refine List.all_eq_true.mpr fun d hd => ?_
      obtain ⟨k, _, rfl⟩ := List.mem_map.mp hd
      rfl
    have e : (((List.range (2 ^ n)).filter fun m => goesB a b m && decide (cutA A m.testBit = low)).map fun m => Dt.tup (natT (bitsL m n))) = ((((List.range (2 ^ n)).filter fun m => goesB a b m && decide (cutA A m.testBit = low)).map fun m => bitsL m n).map fun L => intsT (rowI L)) := by
      rw [List.map_map]
      exact List.map_congr_left fun m _ => row_ints _
    rw [e] at pm
    obtain ⟨Ls, pL, rfl⟩ := perm_mapC pm
    show retQ 0 Qd (.c 1) [_, .own (Ls.map fun L => intsT (rowI L))]
    refine ret_own rfl (q low Ls hlow hle pL ?_)
    rw [List.pairwise_map] at up ⊢
    refine up.imp fun {x y} h => ?_
    have e2 : ∀ l : List Nat, toPy (intsT (rowI l)) = tupD (rowI l) := fun l => by
      show PyData.tuple (toPys ((rowI l).map Dt.int)) = .tuple ((rowI l).map .int)
      rw [toPys_map, List.map_map]
      rfl
    rw [e2, e2, lt_tupD] at h
    exact h
def dCutOf (C : Addr) : XF := fun as ce Q => ∃ (n : Nat) (ts : List Arc) (S : List Nat), as = [.d (webT C n ts), .d (.tup (natT S))] ∧ ce = [] ∧ n ≤ 1000 ∧ SideOk n S ∧ ts.length ≤ 10000 ∧ Q (.d (.int (cutA ts fun k => decide ((k : Int) ∈ rowI S)))) []
theorem sp_cut_of : ∀ vs H Q E, spOf (dCutOf C) vs H Q E → spCutOf K C vs H Q E := by
  rintro vs H Q E ⟨G, fr, ps, ce, as, Qd, R, o, ⟨n, ts, S, rfl, rfl, hn, hS, ht, q⟩, fin⟩
  obtain rfl := rl_nil R
  cases o with
  | cons o1 o =>
    cases o with
    | cons o2 o =>
      cases o
      obtain ⟨a, rfl, web⟩ := is_web.mp o1
      obtain ⟨sa, rfl, hs⟩ := is_row.mp o2
      have := hS.len
      exact ⟨a, sa, n, ts, rowI S, rfl, web.ex R.ex, Evl.st_of (R.ex _ _ hs), by rw [rowI_len]; omega, hS.lot, ht, fun H' e => fin _ _ G [] H' _ q Ex.rfl' List.prefix_rfl (R.go e) (show Is G _ _ from .int _)⟩
theorem cut_mask {A : List Arc} {l : List Nat} (nd : l.Nodup) : (cutA A fun k => decide ((k : Int) ∈ rowI l)) = cutA A (maskN l).testBit := by
  unfold cutA
  congr 2
  refine List.filter_congr fun t _ => ?_
  have e : ∀ k : Nat, decide ((k : Int) ∈ rowI l) = (maskN l).testBit k := fun k => by
    unfold maskN
    rw [pow_bits nd k, decide_eq_decide]
    unfold rowI
    rw [List.mem_map]
    exact ⟨fun ⟨x, hx, ex⟩ => by rw [← Int.ofNat_inj.mp ex]; exact hx, fun h => ⟨k, h, rfl⟩⟩
  show (decide ((t.1 : Int) ∈ rowI l) != decide ((t.2.1 : Int) ∈ rowI l)) = _
  rw [e, e]
def dAsTold (C : Addr) : XF := fun as ce Q => ∃ (n : Nat) (A : List Arc), as = [.d (webT C n A), .d (.lst (A.map arcT)), .d (.int n)] ∧ ce = [] ∧ Ropes n A ∧ n ≤ 9 ∧ (∀ t ∈ A, t.2.2 ≤ 10 ^ 13) ∧ Q (.d (.bl true)) []
abbrev N_law_is_as_told : List Str := ["net", "ropes", "size", "side", "p"]
theorem sc_law_is_as_told : FnScope N_law_is_as_told ["net", "ropes", "size"] (defScope s__law_is_as_told) := ⟨rfl, rfl, rfl, by decide +kernel, rfl, by decide +kernel, by decide +kernel⟩
theorem d_as_told {pt gt : Addr} {gtd : FuncData} (D : Dfn K mg "_law_is_as_told" s__law_is_as_told ["net", "ropes", "size"]) (z : Z mg) (z_repr : mg "repr" = none) (T : WC K mg C) (PT : TG P w K mg base C pt gt gtd "ties" (spTiesN C)) (O_cut_of : DOk P w K mg base 6 "cut_of" ["web", "side"] (dCutOf C)) (O_law_cut : DOk P w K mg base 2 "_law_cut" ["ropes", "mask"] dCut)
    (O_law_mask_of : DOk P w K mg base 1 "_law_mask_of" ["row"] dMaskOf) : DOk P w K mg base 7 "_law_is_as_told" ["net", "ropes", "size"] (dAsTold C) := by
  refine def_ok D sc_law_is_as_told (fun as ce Q h => ?_) (fun f cdv A outer s H E hc hr => (dss_cons (ds_set 3 (fun _ => sc_law_is_as_told.nd) (fun _ => rfl) (fun _ => Or.inl rfl) (de_callTy (dc_tup (K := K)) (fun _ => rfl) (fun _ => z.tuple) (by decide +kernel) (da_cons (de_lc (own := [("p", 4)]) (fun _ => rfl) (fun _ => sc_law_is_as_told.nd) (di_rng1 (fun _ => rfl) (fun _ => z.range) (da_cons (de_var 2) da_nil)) (fun _ => blkOk_by (N := N_law_is_as_told) (own := [("p", 4)]) (sc := defScope s__law_is_as_told) (by decide +kernel)) (cg_name 4 (fun _ => sc_law_is_as_told.nd) (fun _ => rfl) (fun _ => Or.inl rfl)) (dts_one (dt_cmp (do_eq (K := K) (fun _ => hr.units)) (de_op do_mod (de_callTy dc_int (fun _ => rfl) (fun _ => z.int) (by decide +kernel) (da_cons (de_var 4) da_nil)) de_int) de_int (nomark _))) (de_var 4)) da_nil)))
      (dss_one (ds_ret (de_and (de_cmp (do_eq (K := K) (fun _ => hr.units)) (de_callB (dc_repr (K := K) (fun _ => hc) (fun _ => hr.units)) (fun _ => rfl) (fun _ => z_repr) (by decide +kernel) (da_cons (de_prop (fun _ => T.cl) (fun _ => PT.at_) (fun _ => PT.ok) (fun _ => hr.mono (by decide)) (fun _ => PT.b) sp_ties (de_var 0)) da_nil)) (de_callB (dc_repr (K := K) (fun _ => hc) (fun _ => hr.units)) (fun _ => rfl) (fun _ => z_repr) (by decide +kernel) (da_cons (de_var 1) da_nil)) (nomark _)) (de_one (de_cmp (do_eq (K := K) (fun _ => hr.units)) (de_callB (dc_repr (K := K) (fun _ => hc) (fun _ => hr.units)) (fun _ => rfl) (fun _ => z_repr) (by decide +kernel) (da_cons (de_p (fun _ => O_cut_of) (fun _ => hc) (fun _ => hr.mono (by decide)) (da_cons (de_var 0) (da_cons (de_var 3) da_nil))) da_nil)) (de_callB (dc_repr (K := K) (fun _ => hc) (fun _ => hr.units)) (fun _ => rfl) (fun _ => z_repr) (by decide +kernel) (da_cons (de_p (fun _ => O_law_cut) (fun _ => hc) (fun _ => hr.mono (by decide)) (da_cons (de_var 1) (da_cons (de_p (fun _ => O_law_mask_of) (fun _ => hc) (fun _ => hr.mono (by decide)) (da_cons (de_var 3) da_nil)) da_nil))) da_nil)) (nomark _)))))))) (fun as ce Qd h => ?_)
  · obtain ⟨n, A, rfl, _⟩ := h
    rfl
  · obtain ⟨n, A, rfl, rfl, rp5, n9, le5, q⟩ := h
    have okA : ∀ t ∈ A, t.1 < n ∧ t.2.1 < n ∧ t.2.2 ≤ 10 ^ 13 := fun t ht => by
      obtain ⟨h1, h2, _⟩ := rp5.net.ok t ht
      exact ⟨by omega, h2, le5 t ht⟩
    have lA := rp5.few
    obtain ⟨p1, p2⟩ := rp_arcs okA (by omega) (by omega)
    refine ⟨rg_small (by omega), ?_⟩
    refine comp_rngF (fun k => decide (k % 2 = 0)) (fun k => .int k) (by omega) (fun k hk R N h1 h0 => ?_) ?_
    · refine ⟨by show (0 : Int) < 2; decide, ?_⟩
      have e : decide (((k : Int) % 2) = 0) = decide (k % 2 = 0) := by rw [decide_eq_decide]; omega
      show if decide (((k : Int) % 2) = 0) = true then _ else _
      rw [e]
      exact ite2 (fun h => h1 h) (fun h => h0 (by simpa using h))
    refine ⟨_, rfl, ?_⟩
    have ok : SideOk n ((List.range n).filter fun k => decide (k % 2 = 0)) := side_ok n _
    refine ⟨_, rfl, n, A, rfl, ?_⟩
    refine ⟨.lst (A.map arcT), rfl, p1, p2, fun x0 ex0 => ?_⟩
    refine ⟨.lst (A.map arcT), rfl, p1, p2, fun x1 ex1 => ?_⟩
    have e01 : decide (x0 = x1) = true := decide_eq_true (ex0.trans ex1.symm)
    show (if (ngt false (decide (x0 = x1))) = true then _ else _)
    refine ite2 (fun _ => ?_) (fun h => absurd e01 h)
    have ct : cutA A (maskN ((List.range n).filter fun k => decide (k % 2 = 0))).testBit < 10 ^ 40 := by
      have h1 := cutA_le (B := 10 ^ 13) (maskN ((List.range n).filter fun k => decide (k % 2 = 0))).testBit (ts := A) le5
      have h3 : A.length * 10 ^ 13 ≤ 81 * 10 ^ 13 := Nat.mul_le_mul_right _ lA
      omega
    have em := cut_mask (A := A) ok.nd
    refine ⟨_, rfl, n, A, _, rfl, rfl, by omega, ok, by omega, ?_⟩
    refine ⟨.int (cutA A fun k => decide ((k : Int) ∈ rowI ((List.range n).filter fun k => decide (k % 2 = 0))) : Nat), rfl, rp_nat (by rw [em]; exact ct), by show 41 ≤ 2 ^ 24; decide, fun y0 ey0 => ?_⟩
    refine ⟨_, rfl, (List.range n).filter fun k => decide (k % 2 = 0), rfl, rfl, by have := ok.len; omega, fun k hk => by have := ok.lt k hk; omega, ?_⟩
    refine ⟨_, rfl, A, maskN ((List.range n).filter fun k => decide (k % 2 = 0)), rfl, rfl, by omega, ?_⟩
    refine ⟨.int (cutA A (maskN ((List.range n).filter fun k => decide (k % 2 = 0))).testBit : Nat), rfl, rp_nat ct, by show 41 ≤ 2 ^ 24; decide, fun y1 ey1 => ?_⟩
    show Qd (.d (.bl (decide (y0 = y1)))) []
    rw [em] at ey0
    rw [decide_eq_true (ey0.trans ey1.symm)]
    exact q
end
end TD
set_option Elab.async false
set_option linter.all false
set_option maxRecDepth 100000
set_option maxHeartbeats 6000000
/-! the law: all least sides -/
namespace TD
open PySem PySem.Spec PyProof.Rows L2 TW
theorem rowI_inj {l x : List Nat} (h : rowI l = rowI x) : l = x := key_inj (by rw [h])
theorem rows_nodup {Ls : List (List Nat)} (h : Ls.Nodup) : (Ls.map rowI).Nodup := by
  unfold List.Nodup at h ⊢
  rw [List.pairwise_map]
  exact h.imp fun {a b} n e => n (rowI_inj e)
theorem sides_same {Ls Ls' : List (List Nat)} (n1 : Ls.Nodup) (n2 : Ls'.Nodup) (p1 : (Ls.map rowI).Pairwise (fun x y => HT.lexLt y x = false)) (p2 : (Ls'.map rowI).Pairwise (fun x y => HT.lexLt y x = false)) (m : ∀ L, L ∈ Ls ↔ L ∈ Ls') : Ls = Ls' := by
  have e : Ls.map rowI = Ls'.map rowI := strict_ext lex_asymm (lots_strict p1 (rows_nodup n1)) (lots_strict p2 (rows_nodup n2)) fun z => by
    rw [List.mem_map, List.mem_map]
    exact ⟨fun ⟨L, h, e⟩ => ⟨L, (m L).mp h, e⟩, fun ⟨L, h, e⟩ => ⟨L, (m L).mpr h, e⟩⟩
  refine List.ext_getElem? fun i => ?_
  have := congrArg (·[i]?) e
  simp only [List.getElem?_map] at this
  cases h1 : Ls[i]? with
  | none =>
    rw [h1] at this
    cases h2 : Ls'[i]? with
    | none => rfl
    | some y => rw [h2] at this; cases this
  | some y =>
    rw [h1] at this
    cases h2 : Ls'[i]? with
    | none => rw [h2] at this; cases this
    | some z => rw [h2] at this; rw [rowI_inj (Option.some.inj this)]
theorem due_sides {n : Nat} {A : List Arc} (net : Net n A) {a b low : Nat} (ha : a < 2 ^ n) (hb : b < 2 ^ n) (hlow : ∃ m, m < 2 ^ n ∧ goesB a b m = true ∧ cutA A m.testBit = low) (hle : ∀ m, m < 2 ^ n → goesB a b m = true → low ≤ cutA A m.testBit)
    {Ls Ls' : List (List Nat)} (pm : Ls.Perm (((List.range (2 ^ n)).filter fun m => goesB a b m && decide (cutA A m.testBit = low)).map fun m => bitsL m n)) (p1 : (Ls.map rowI).Pairwise (fun x y => HT.lexLt y x = false)) {M : Nat → Nat → Int} {W : Int} (fl : Flow A n (bitsL a n) (bitsL b n) M W)
    (no : ∀ t ∈ bitsL b n, ¬ ∃ s ∈ bitsL a n, Rch n M s t) (n2 : Ls'.Nodup) (p2 : (Ls'.map rowI).Pairwise (fun x y => HT.lexLt y x = false)) (mem : ∀ L, L ∈ Ls' ↔ ∃ f, Shut n M (bitsL a n) (bitsL b n) f ∧ L = plcN n f) : Ls' = Ls := by
  have okA : ∀ t ∈ A, arcOk n t := fun t ht => by
    obtain ⟨h1, h2, _⟩ := net.ok t ht
    exact ⟨by omega, h2, by omega⟩
  obtain ⟨g1, c1⟩ := fl.done (bits_ok a n).lt no
  have mk : ∀ f : Nat → Bool, TW.goesB (bitsL a n) (bitsL b n) f → ∃ m, m < 2 ^ n ∧ goesB a b m = true ∧ (∀ k, k < n → m.testBit k = f k) ∧ cutA A m.testBit = cutA A f := fun f g => by
    obtain ⟨m, hm, h⟩ := mask_ex n f
    refine ⟨m, hm, (goes_iff ha hb).mpr ⟨fun s hs => ?_, fun t ht => ?_⟩, h, cutA_congrN okA h⟩
    · rw [h s (mem_bits.mp hs).1]; exact g.1 s hs
    · rw [h t (mem_bits.mp ht).1]; exact g.2 t ht
  have eW : W = low := by
    obtain ⟨m1, l1, gm1, _, e1⟩ := mk _ g1
    obtain ⟨m, hm, gm, em⟩ := hlow
    have h1 := fl.le ((goes_iff ha hb).mp gm)
    have h2 := hle m1 l1 gm1
    rw [e1] at h2
    omega
  have n1 : Ls.Nodup := by
    rw [pm.nodup_iff]
    unfold List.Nodup
    rw [List.pairwise_map]
    have : ((List.range (2 ^ n)).filter fun m => goesB a b m && decide (cutA A m.testBit = low)).Pairwise fun x y => x ≠ y ∧ x < 2 ^ n ∧ y < 2 ^ n := by
      refine List.Pairwise.imp_of_mem (fun {x y} hx hy h => ⟨h, ?_, ?_⟩) (List.nodup_range.filter _)
      · exact List.mem_range.mp (List.mem_filter.mp hx).1
      · exact List.mem_range.mp (List.mem_filter.mp hy).1
    refine this.imp fun {x y} h e => h.1 (Nat.eq_of_testBit_eq fun k => ?_)
    by_cases c : k < n
    · rw [Bool.eq_iff_iff]
      constructor
      · intro hk
        have := mem_bits.mpr ⟨c, hk⟩
        rw [e] at this
        exact (mem_bits.mp this).2
      · intro hk
        have := mem_bits.mpr ⟨c, hk⟩
        rw [← e] at this
        exact (mem_bits.mp this).2
    · have off : ∀ z, z < 2 ^ n → z.testBit k = false := fun z hz => Nat.testBit_lt_two_pow (Nat.lt_of_lt_of_le hz (Nat.pow_le_pow_right (by decide) (by omega)))
      rw [off x h.2.1, off y h.2.2]
  refine sides_same n2 n1 p2 p1 fun L => ?_
  rw [mem, pm.mem_iff, List.mem_map]
  constructor
  · rintro ⟨f, ⟨g, z⟩, rfl⟩
    obtain ⟨m, hm, gm, eb, ec⟩ := mk f g
    have := fl.eq f g
    refine ⟨m, List.mem_filter.mpr ⟨List.mem_range.mpr hm, ?_⟩, List.filter_congr fun k hk => eb k (List.mem_range.mp hk)⟩
    rw [gm, Bool.true_and, decide_eq_true_iff, ec]
    omega
  · rintro ⟨m, hm, rfl⟩
    obtain ⟨h1, h2⟩ := List.mem_filter.mp hm
    rw [Bool.and_eq_true, decide_eq_true_iff] at h2
    have g := (goes_iff ha hb).mp h2.1
    have := fl.eq _ g
    exact ⟨m.testBit, ⟨g, by omega⟩, rfl⟩
end TD
set_option Elab.async false
set_option linter.all false
set_option maxRecDepth 100000
set_option maxHeartbeats 6000000
/-! a turn of the law -/
namespace TD
open PySem PySem.Spec PyProof.Rows L2 TW
def sidesT (Ls : List (List Nat)) : List Dt := Ls.map fun L => intsT (rowI L)
theorem rp_sides {n : Nat} {Ls : List (List Nat)} (h : ∀ L ∈ Ls, SideOk n L) (hn : n ≤ 9) (l : Ls.length ≤ 512) : rp 60 (.lst (sidesT Ls)) = true ∧ szD (.lst (sidesT Ls)) ≤ 2 ^ 24 := by
  constructor
  · show (sidesT Ls).all (rp 59) = true
    refine List.all_eq_true.mpr fun d hd => ?_
    obtain ⟨L, hL, rfl⟩ := List.mem_map.mp hd
    rw [← row_ints]
    exact rp_nats fun k hk => by have := (h L hL).lt k hk; omega
  · show szDs (sidesT Ls) + 3 ≤ 2 ^ 24
    have := szDs_le (m := 390) (ds := sidesT Ls) fun d hd => by
      obtain ⟨L, hL, rfl⟩ := List.mem_map.mp hd
      rw [← row_ints]
      have h1 := sz_nats (l := L)
      have h2 := (h L hL).len
      omega
    unfold sidesT at this ⊢
    rw [List.length_map] at this
    omega
theorem nol_sides (Ls : List (List Nat)) : ∀ d ∈ sidesT Ls, NoL d := fun d hd => by
  obtain ⟨L, _, rfl⟩ := List.mem_map.mp hd
  rw [← row_ints]
  exact nol_nats L
/-- x is what is written of the least sides between the places of a and those of b -/
structure AskS (n : Nat) (A : List Arc) (a b : Nat) (x : Str) : Prop where
  ha : a < 2 ^ n
  hb : b < 2 ^ n
  hab : a &&& b = 0
  due : ∀ (M : Nat → Nat → Int) (W : Int) (Ls : List (List Nat)), Flow A n (bitsL a n) (bitsL b n) M W → (∀ t ∈ bitsL b n, ¬ ∃ s ∈ bitsL a n, Rch n M s t) → Ls.Nodup → (Ls.map rowI).Pairwise (fun x y => HT.lexLt y x = false) → (∀ L, L ∈ Ls ↔ ∃ f, Shut n M (bitsL a n) (bitsL b n) f ∧ L = plcN n f) →
    (∀ L ∈ Ls, SideOk n L) ∧ Ls.length ≤ 512 ∧ x = (toPy (.lst (sidesT Ls))).shown
theorem bits_apart {a b n : Nat} (hab : a &&& b = 0) : ∀ s ∈ bitsL a n, s ∉ bitsL b n := fun s h1 h2 => by
  have h3 : (a &&& b).testBit s = true := by rw [Nat.testBit_and, (mem_bits.mp h1).2, (mem_bits.mp h2).2]; rfl
  rw [hab, Nat.zero_testBit] at h3
  cases h3
abbrev Twos := Nat × Nat × Str
def twoT (r : Twos) : Dt := .tup [.tup [.int r.1, .int r.2.1], .str r.2.2]
def turnS (C : Addr) : XS := seqD (asgD (calJ dDrawPins (consD (varD 4) (consD (varD 5) nilD))) (nameD 11))
  (seqD (asgD (calD reprD (consD (calP dDueSides (consD (varD 8) (consD (varD 11) (consD (varD 5) nilD)))) nilD)) (nameD 12))
  (seqD (asgD (calP (dLeastSides C) (consD (varD 7) (consD (calP dRowOf (consD (opD ixD (varD 11) (conD (Dt.int 0))) (consD (varD 5) nilD))) (consD (calP dRowOf (consD (opD ixD (varD 11) (conD (Dt.int 1))) (consD (varD 5) nilD))) nilD)))) (nameD 13))
  (seqD (ifS (tstD (opD (eqD true) (calD reprD (consD (varD 13) nilD)) (varD 12))) (retD (conD (Dt.bl false))) nextD)
  (seqD (dropD (metD insD (varD 13) (consD (conD (Dt.int 0)) (consD (tupE (consD (varD 5) (consD (varD 5) nilD))) nilD))))
  (dropD (metD appD (varD 9) (consD (tupE (consD (varD 11) (consD (varD 12) nilD))) nilD)))))))
theorem turnS_ok {C : Addr} {E : Ed} {n k j : Nat} {A : List Arc} {rs : List Twos} {js6 c0 c1 c2 : List Dt} {u0 u1 u2 u3 v10 v11 v12 v13 : Option Rf} {m5 : Cl} (n9 : n ≤ 9) (rp5 : Ropes n A) (jo6 : JarOk k js6) (hk : k < 10 ^ 4) (lrs : rs.length = j) (hj : j ≤ 100) (asks : ∀ r ∈ rs, AskS n A r.1 r.2.1 r.2.2)
    (q : ∀ (js7 : List Dt) (rs' : List Twos) (r11 r12 r13 : Option Rf) (x : List Cl), JarOk (k + 1 + n) js7 → rs'.length = j + 1 → (∀ r ∈ rs', AskS n A r.1 r.2.1 r.2.2) → E.nx ⟨[u0, u1, u2, u3, some (.c 3), some (.d (.int n)), some (.c 4), some (.d (webT C n A)), some (.c 6), some (.c 7), v10, r11, r12, some (.c 9)], [.own c0, .own c1, .own c2, .own js7, .own (A.map arcT), m5, .own (sumsT n A), .own (rs'.map twoT)] ++ x⟩) :
    turnS C E ⟨[u0, u1, u2, u3, some (.c 3), some (.d (.int n)), some (.c 4), some (.d (webT C n A)), some (.c 6), some (.c 7), v10, v11, v12, v13], [.own c0, .own c1, .own c2, .own js6, .own (A.map arcT), m5, .own (sumsT n A), .own (rs.map twoT)]⟩ := by
  refine ⟨_, _, rfl, List.not_mem_nil, rfl, k, n, js6, rfl, rfl, jo6, by omega, n9, fun a b js7 ha hb hab jo7 => ?_⟩
  refine ⟨_, rfl, n, a, b, A, rfl, rfl, n9, ha, hab, fun low Ls hlow hle pm p1 => ?_⟩
  refine ⟨nol_sides Ls, ?_⟩
  have pw : 2 ^ n ≤ 512 := Nat.pow_le_pow_right (n := 2) (by decide) n9
  have lL : Ls.length ≤ 512 := by
    rw [pm.length_eq, List.length_map]
    have := List.length_filter_le (fun m => goesB a b m && decide (cutA A m.testBit = low)) (List.range (2 ^ n))
    rw [List.length_range] at this
    omega
  have okL : ∀ L ∈ Ls, SideOk n L := fun L hL => by
    obtain ⟨m, _, rfl⟩ := List.mem_map.mp (pm.mem_iff.mp hL)
    exact bits_ok m n
  obtain ⟨r1, r2⟩ := rp_sides okL n9 lL
  refine ⟨.lst (sidesT Ls), rfl, r1, r2, fun x0 ex0 => ?_⟩
  refine ⟨_, _, _, rfl, rfl, at_zero, ?_⟩
  refine ⟨_, rfl, a, n, rfl, rfl, by omega, ?_⟩
  refine ⟨_, _, _, rfl, rfl, at_nat (i := 1) rfl, ?_⟩
  refine ⟨_, rfl, b, n, rfl, rfl, by omega, ?_⟩
  refine ⟨_, rfl, n, A, bitsL a n, bitsL b n, rfl, rfl, rp5.net, by omega, bits_ok a n, bits_ok b n, bits_apart hab, fun M W Ls' fl no n2 p2 mem => ?_⟩
  have eL := due_sides rp5.net ha hb hlow hle pm p1 fl no n2 p2 mem
  subst eL
  refine ⟨.lst (sidesT Ls'), rfl, r1, r2, fun x1 ex1 => ?_⟩
  refine ite2 (fun h => ?_) (fun _ => ?_)
  · have h : (!decide (x1 = x0)) = true := h
    rw [decide_eq_true (ex1.trans ex0.symm)] at h
    cases h
  refine ⟨⟨_, rfl⟩, ?_⟩
  refine ⟨rfl, ?_⟩
  refine ⟨9, 0, _, sidesT Ls', rfl, rfl, rfl, by unfold sidesT; rw [List.length_map]; omega, by decide, by decide, ?_⟩
  refine ⟨⟨_, rfl⟩, ?_⟩
  refine ⟨rfl, ?_⟩
  refine ⟨7, _, _, rfl, rfl, rfl, by rw [List.length_map]; omega, ?_⟩
  have asks7 : ∀ r ∈ rs ++ [(a, b, x0)], AskS n A r.1 r.2.1 r.2.2 := fun r hr => by
    rcases List.mem_append.mp hr with h | h
    · exact asks r h
    · rw [List.mem_singleton.mp h]
      exact ⟨ha, hb, hab, fun M W Lz fl no n2 p2 mem => by
        have eL := due_sides rp5.net ha hb hlow hle pm p1 fl no n2 p2 mem
        subst eL
        exact ⟨okL, lL, ex0⟩⟩
  have z := fun x => q js7 (rs ++ [(a, b, x0)]) (some (.d (.tup [.int a, .int b]))) (some (.d (.str x0))) none x jo7 (by rw [List.length_append, lrs]; rfl) asks7
  simp only [List.map_append] at z
  exact z [_, _]
end TD
set_option Elab.async false
set_option linter.all false
set_option maxRecDepth 100000
set_option maxHeartbeats 6000000
/-! the law -/
namespace TD
open PySem PySem.Spec PyProof.Rows L2 TW
section
variable {P : Program} {w : World} {K : PySem.W.Frag} {mg : Str → Option Value} {base : Heap} {C : Addr} {f fi : Addr} {fd fid : FuncData}
abbrev N_law : List Str := ["script", "great", "spot", "cell", "jar", "size", "ropes", "net", "sums", "rows", "turn", "pins", "due", "found"]
theorem sc_law : FnScope N_law ["script"] (defScope s_law) := ⟨rfl, rfl, rfl, by decide +kernel, rfl, by decide +kernel, by decide +kernel⟩
theorem g_law26 (D : Fun K "law" "law" s_law f fd) (z : Z mg) (z_repr : mg "repr" = none) (z_enumerate : mg "enumerate" = none) (T : WC K mg C) (M : WM P w K mg base C fi fid)
    (O_law_new_jar : DOk P w K mg base 1 "_law_new_jar" ["cell"] dNewJar) (O_law_take : DOk P w K mg base 1 "_law_take" ["jar", "upto"] dTake) (O_law_draw_ropes : DOk P w K mg base 3 "_law_draw_ropes" ["jar", "size"] dDrawRopes) (O_law_some_rows : DOk P w K mg base 1 "_law_some_rows" ["ropes", "flip"] dSomeRows)
    (O_law_sums : DOk P w K mg base 1 "_law_sums" ["size", "ropes"] dSums) (O_law_draw_pins : DOk P w K mg base 2 "_law_draw_pins" ["jar", "size"] dDrawPins) (O_law_row_of : DOk P w K mg base 1 "_law_row_of" ["mask", "many"] dRowOf) (O_law_due_sides : DOk P w K mg base 2 "_law_due_sides" ["sums", "pins", "size"] dDueSides)
    (O_least_sides : DOk P w K mg base 8 "least_sides" ["web", "must", "never"] (dLeastSides C)) (K_least_sides : KOk P w K mg base 8 "least_sides" ["web", "must", "never"] ["never", "must", "web"] [2, 1, 0] (dLeastSides C)) (O_law_is_as_told : DOk P w K mg base 7 "_law_is_as_told" ["net", "ropes", "size"] (dAsTold C)) : FnG P w K mg base 9 f fd ["script"] (spOf (dLaw K)) := by
  refine def_g D sc_law (fun as ce Q h => ?_) (fun f cdv A outer s H E hc hr => (dss_cons (ds_set 1 (fun _ => sc_law.nd) (fun _ => rfl) (fun _ => Or.inl rfl) de_int)
      (dss_cons (ds_for (fun _ => PassesOwn.never) (fun _ => rfl) (di_enum (K := K) (fun _ => rfl) (fun _ => z_enumerate) (da_cons (de_op (do_add (K := K)) (de_lst (da_cons (de_var 1) da_nil)) (de_slP (K := K) (de_var 0) dp_none (dp_some de_int))) da_nil)) (dg_tup (K := K) (n := 2) (fun _ => rfl) (dgs_cons (dg_name 2 (fun _ => sc_law.nd) (fun _ => rfl) (fun _ => Or.inl rfl)) (dgs_cons (dg_name 3 (fun _ => sc_law.nd) (fun _ => rfl) (fun _ => Or.inl rfl)) dgs_nil)))
        (dss_cons (ds_set 4 (fun _ => sc_law.nd) (fun _ => rfl) (fun _ => Or.inl rfl) (de_p (fun _ => O_law_new_jar) (fun _ => hc) (fun _ => hr.mono (by decide)) (da_cons (de_var 3) da_nil)))
      (dss_cons (ds_J (ds_set 5 (fun _ => sc_law.nd) (fun _ => rfl) (fun _ => Or.inl rfl) (de_op (do_add (K := K)) de_int (de_j (fun _ => O_law_take) (fun _ => hc) (fun _ => hr.mono (by decide)) (da_cons (de_var 4) (da_cons (de_J (de_if (dt_cmp (do_lt (K := K) (fun _ => hr.units0)) (de_var 2) de_int (nomark _)) de_int de_int)) da_nil))))))
      (dss_cons (ds_set 6 (fun _ => sc_law.nd) (fun _ => rfl) (fun _ => Or.inl rfl) (de_j (fun _ => O_law_draw_ropes) (fun _ => hc) (fun _ => hr.mono (by decide)) (da_cons (de_var 4) (da_cons (de_var 5) da_nil))))
      (dss_cons (ds_set 7 (fun _ => sc_law.nd) (fun _ => rfl) (fun _ => Or.inl rfl) (de_make (fun _ => M.make) (fun _ => M.ok) (fun _ => hr.mono (by decide)) (fun _ => rfl) (fun _ => T.mg) (fun _ => M.b) (mk_web M) (da_cons (de_var 5) (da_cons (de_p (fun _ => O_law_some_rows) (fun _ => hc) (fun _ => hr.mono (by decide)) (da_cons (de_var 6) (da_cons (de_j (fun _ => O_law_take) (fun _ => hc) (fun _ => hr.mono (by decide)) (da_cons (de_var 4) (da_cons de_int da_nil))) da_nil))) da_nil))))
      (dss_cons (ds_set 8 (fun _ => sc_law.nd) (fun _ => rfl) (fun _ => Or.inl rfl) (de_p (fun _ => O_law_sums) (fun _ => hc) (fun _ => hr.mono (by decide)) (da_cons (de_var 5) (da_cons (de_var 6) da_nil))))
      (dss_cons (ds_set 9 (fun _ => sc_law.nd) (fun _ => rfl) (fun _ => Or.inl rfl) (de_lst da_nil))
      (dss_cons (ds_for (fun _ => PassesOwn.never) (fun _ => rfl) (di_rng1 (fun _ => rfl) (fun _ => z.range) (da_cons de_int da_nil)) (dg_name 10 (fun _ => sc_law.nd) (fun _ => rfl) (fun _ => Or.inl rfl))
        (dss_cons (ds_set 11 (fun _ => sc_law.nd) (fun _ => rfl) (fun _ => Or.inl rfl) (de_j (fun _ => O_law_draw_pins) (fun _ => hc) (fun _ => hr.mono (by decide)) (da_cons (de_var 4) (da_cons (de_var 5) da_nil))))
      (dss_cons (ds_set 12 (fun _ => sc_law.nd) (fun _ => rfl) (fun _ => Or.inl rfl) (de_callB (dc_repr (K := K) (fun _ => hc) (fun _ => hr.units)) (fun _ => rfl) (fun _ => z_repr) (by decide +kernel) (da_cons (de_p (fun _ => O_law_due_sides) (fun _ => hc) (fun _ => hr.mono (by decide)) (da_cons (de_var 8) (da_cons (de_var 11) (da_cons (de_var 5) da_nil)))) da_nil)))
      (dss_cons (ds_set 13 (fun _ => sc_law.nd) (fun _ => rfl) (fun _ => Or.inl rfl) (de_p (fun _ => O_least_sides) (fun _ => hc) (fun _ => hr.mono (by decide)) (da_cons (de_var 7) (da_cons (de_p (fun _ => O_law_row_of) (fun _ => hc) (fun _ => hr.mono (by decide)) (da_cons (de_ix (K := K) (de_var 11) de_int (fun _ _ => rfl)) (da_cons (de_var 5) da_nil))) (da_cons (de_p (fun _ => O_law_row_of) (fun _ => hc) (fun _ => hr.mono (by decide)) (da_cons (de_ix (K := K) (de_var 11) de_int (fun _ _ => rfl)) (da_cons (de_var 5) da_nil))) da_nil)))))
      (dss_cons (ds_if (dt_cmp (do_ne (K := K) (fun _ => hr.units)) (de_callB (dc_repr (K := K) (fun _ => hc) (fun _ => hr.units)) (fun _ => rfl) (fun _ => z_repr) (by decide +kernel) (da_cons (de_var 13) da_nil)) (de_var 12) (nomark _)) (dss_one (ds_ret de_bl)) dss_nil)
      (dss_cons (ds_expr (de_met (K := K) PySem.F.plainAttrs_list PySem.F.slot_list_insert PySem.F.type_list_insert (fun _ => mt_insert) sm_ins (de_var 13) (da_cons de_int (da_cons (de_tup (da_cons (de_var 5) (da_cons (de_var 5) da_nil))) da_nil))))
      (dss_one (ds_expr (de_app (K := K) (de_var 9) (da_cons (de_tup (da_cons (de_var 11) (da_cons (de_var 12) da_nil))) da_nil))))))))))
      (dss_cons (ds_for (fun _ => PassesOwn.never) (fun _ => rfl) (di_seq (K := K) (de_var 9)) (dg_tup (K := K) (n := 2) (fun _ => rfl) (dgs_cons (dg_name 11 (fun _ => sc_law.nd) (fun _ => rfl) (fun _ => Or.inl rfl)) (dgs_cons (dg_name 12 (fun _ => sc_law.nd) (fun _ => rfl) (fun _ => Or.inl rfl)) dgs_nil)))
        (dss_cons (ds_set 13 (fun _ => sc_law.nd) (fun _ => rfl) (fun _ => Or.inl rfl) (de_k (fun _ => K_least_sides) (fun _ => hc) (fun _ => hr.mono (by decide)) (dk_cons (de_p (fun _ => O_law_row_of) (fun _ => hc) (fun _ => hr.mono (by decide)) (da_cons (de_ix (K := K) (de_var 11) de_int (fun _ _ => rfl)) (da_cons (de_var 5) da_nil))) (dk_cons (de_p (fun _ => O_law_row_of) (fun _ => hc) (fun _ => hr.mono (by decide)) (da_cons (de_ix (K := K) (de_var 11) de_int (fun _ _ => rfl)) (da_cons (de_var 5) da_nil))) (dk_cons (de_var 7) dk_nil)))))
      (dss_one (ds_if (dt_cmp (do_ne (K := K) (fun _ => hr.units)) (de_callB (dc_repr (K := K) (fun _ => hc) (fun _ => hr.units)) (fun _ => rfl) (fun _ => z_repr) (by decide +kernel) (da_cons (de_var 13) da_nil)) (de_var 12) (nomark _)) (dss_one (ds_ret de_bl)) dss_nil))))
      (dss_one (ds_if (dt_not (dt_val (de_p (fun _ => O_law_is_as_told) (fun _ => hc) (fun _ => hr.mono (by decide)) (da_cons (de_var 7) (da_cons (de_var 6) (da_cons (de_var 5) da_nil)))))) (dss_one (ds_ret de_bl)) dss_nil)))))))))))
      (dss_one (ds_ret de_bl))))) (fun as ce Qd h => ?_)
  · obtain ⟨ns, rfl, _⟩ := h
    rfl
  · obtain ⟨ns, rfl, rfl, q⟩ := h
    obtain ⟨great, eg⟩ : ∃ g : Int, g = 177076024389039822781743423651613573887156265267931753892894962052636208036918865561820731214180 := ⟨_, rfl⟩
    rw [← eg]
    clear eg
    refine ⟨rfl, ?_⟩
    refine ⟨ns, rfl, ?_⟩
    refine ⟨_, _, rfl, rfl, ?_, ?_⟩
    · rw [show (20 : Int) = ((20 : Nat) : Int) from rfl, cutL_to, List.length_map, List.length_take]
      show 1 + min 20 ns.length ≤ 100000
      omega
    refine ⟨_, rfl, Nat.lt_succ_self _, ?_⟩
    obtain ⟨cs, ecs⟩ : ∃ cs, cs = cutL ns none (some 20) := ⟨_, rfl⟩
    rw [← ecs, show ([Dt.int great] ++ cs.map Dt.int) = (great :: cs).map Dt.int from rfl, enm_map]
    refine for_seq (xs := (great :: cs).zipIdx) (fun i s => ∃ v2 v3 v4 v5 v6 v7 v8 v9 v10 v11 v12 v13 : Option Rf, s = ⟨[some (.d (.prm (scrP K ns))), some (.d (.int great)), v2, v3, v4, v5, v6, v7, v8, v9, v10, v11, v12, v13], [.own [.int great], .own (cs.map .int), .own ((great :: cs).map .int)]⟩)
      ⟨none, none, none, none, none, none, none, none, none, none, none, none, rfl⟩ ?_ ?_ ?_
    · rintro i s hi ⟨v2, v3, v4, v5, v6, v7, v8, v9, v10, v11, v12, v13, rfl⟩
      rfl
    · rintro i x s hx ⟨v2, v3, v4, v5, v6, v7, v8, v9, v10, v11, v12, v13, rfl⟩
      obtain ⟨cell, spot⟩ := x
      refine ⟨rfl, ?_⟩
      refine ⟨_, rfl, cell, rfl, rfl, fun js jo => ?_⟩
      refine ⟨fun s => ∃ (n : Nat) (js : List Dt), s = ⟨[some (.d (.prm (scrP K ns))), some (.d (.int great)), some (.d (.int (spot : Nat))), some (.d (.int cell)), some (.c 3), some (.d (.int n)), v6, v7, v8, v9, v10, v11, v12, v13], [.own [.int great], .own (cs.map .int), .own ((great :: cs).map .int), .own js]⟩ ∧ JarOk 1 js ∧ 0 < n ∧ n ≤ 9, ?_, ?_⟩
      · refine ⟨fun r ce => ∃ m : Nat, r = .d (.int m) ∧ 0 < m ∧ m ≤ 9 ∧ ce = [.own [.int great], .own (cs.map .int), .own ((great :: cs).map .int), .own js], ite2 (fun _ => ⟨9, rfl, by decide, by decide, rfl⟩) (fun _ => ⟨6, rfl, by decide, by decide, rfl⟩), ?_⟩
        rintro r ce ⟨m, rfl, m0, m9, rfl⟩
        refine ⟨_, _, rfl, List.not_mem_nil, rfl, 0, m, js, rfl, rfl, jo, by decide, m0, Nat.lt_of_le_of_lt m9 (by decide), fun x js1 hx jo1 => ?_⟩
        refine ⟨1 + x, js1, ?_, jo1, by omega, by omega⟩
        show (⟨[_, _, _, _, _, some (.d (.int (1 + (x : Int)))), _, _, _, _, _, _, _, _], _⟩ : Ds) = _
        rw [show (1 + (x : Int)) = ((1 + x : Nat) : Int) by omega]
        rfl
      clear jo
      rintro s ⟨n, js1, rfl, jo1, n0, n9⟩
      refine ⟨_, _, rfl, List.not_mem_nil, rfl, 1, n, js1, rfl, rfl, jo1, by decide, n0, n9, fun A js2 rpA leA jo2 => ?_⟩
      refine ⟨_, _, rfl, List.not_mem_nil, rfl, 401, 6, js2, rfl, rfl, jo2, by decide, by decide, by decide, fun fl js3 hfl jo3 => ?_⟩
      refine ⟨_, rfl, n, fl, A, rfl, rfl, rpA, fun R rowR => ?_⟩
      refine ⟨nol_arcs R, ?_⟩
      have sumR : sumA n R = A := by
        rw [sumA_of (us := A) fun p _ _ => rowR.sums p]
        exact rpA.net.sum
      have lenR : R.length ≤ 83 := by have := rowR.len; have := rpA.few; omega
      refine ⟨_, rfl, n, R, rfl, rfl, rowR.ok, by omega, n0, by omega, ?_⟩
      refine ⟨nol_web C n _, ?_⟩
      refine ⟨_, rfl, n, A, rfl, rfl, rpA, n9, ?_⟩
      refine ⟨nol_sums n A, ?_⟩
      refine ⟨rfl, ?_⟩
      refine ⟨⟨by decide, by decide⟩, ?_⟩
      refine for_rng (n := 2) (fun j s => ∃ (js : List Dt) (rs : List Twos) (v10 v11 v12 v13 : Option Rf), s = ⟨[some (.d (.prm (scrP K ns))), some (.d (.int great)), some (.d (.int (spot : Nat))), some (.d (.int cell)), some (.c 3), some (.d (.int n)), some (.c 4), some (.d (webT C n A)), some (.c 6), some (.c 7), v10, v11, v12, v13], [.own [.int great], .own (cs.map .int), .own ((great :: cs).map .int), .own js, .own (A.map arcT), .own (R.map arcT), .own (sumsT n A), .own (rs.map twoT)]⟩ ∧ JarOk (600 + 20 * j) js ∧ rs.length = j ∧ ∀ r ∈ rs, AskS n A r.1 r.2.1 r.2.2)
        ⟨js3, [], v10, v11, v12, v13, ?_, jo3.up (by decide), rfl, fun r h => absurd h List.not_mem_nil⟩ ?_ ?_
      · show (⟨[_, _, _, _, _, _, _, some (.d (webT C n (sumA n R))), _, _, _, _, _, _], _⟩ : Ds) = _
        rw [sumR]
        rfl
      · rintro j s hj ⟨js6, rs, v10, v11, v12, v13, rfl, jo6, lrs, asks⟩
        refine turnS_ok (C := C) n9 rpA jo6 (by omega) lrs (by omega) asks fun js7 rs' r11 r12 r13 x jo7 l7 asks7 => ?_
        refine nx_upto (k := 8) (E := { nx := nxt _ _, rt := _, bk := _, ct := _, n0 := _ }) rfl (Nat.le_of_ble_eq_true rfl) (by rw [List.length_append]; exact Nat.le_add_right 8 _) ?_
        exact ⟨js7, rs', some (.d (.int j)), _, _, _, rfl, jo7.up (by omega), l7, asks7⟩
      · rintro s ⟨js6, rs, v10, v11, v12, v13, rfl, jo6, lrs, asks⟩
        refine ⟨_, rfl, Nat.lt_succ_self _, ?_⟩
        refine for_seq (xs := rs) (h := twoT) (fun i s => ∃ (v10 v11 v12 v13 : Option Rf), s = ⟨[some (.d (.prm (scrP K ns))), some (.d (.int great)), some (.d (.int (spot : Nat))), some (.d (.int cell)), some (.c 3), some (.d (.int n)), some (.c 4), some (.d (webT C n A)), some (.c 6), some (.c 7), v10, v11, v12, v13], [.own [.int great], .own (cs.map .int), .own ((great :: cs).map .int), .own js6, .own (A.map arcT), .own (R.map arcT), .own (sumsT n A), .own (rs.map twoT)]⟩) ⟨v10, v11, v12, v13, rfl⟩ ?_ ?_ ?_
        · rintro i s hi ⟨v10, v11, v12, v13, rfl⟩
          rfl
        · rintro i r s hi ⟨v10, v11, v12, v13, rfl⟩
          have ok := asks r (List.mem_of_getElem? hi)
          refine ⟨rfl, ?_⟩
          refine ⟨_, _, _, rfl, rfl, at_nat (i := 1) rfl, ?_⟩
          refine ⟨_, rfl, r.2.1, n, rfl, rfl, by omega, ?_⟩
          refine ⟨_, _, _, rfl, rfl, at_zero, ?_⟩
          refine ⟨_, rfl, r.1, n, rfl, rfl, by omega, ?_⟩
          refine ⟨_, rfl, n, A, bitsL r.1 n, bitsL r.2.1 n, rfl, rfl, rpA.net, by omega, bits_ok r.1 n, bits_ok r.2.1 n, bits_apart ok.hab, fun M W Ls fl no n2 p2 mem => ?_⟩
          obtain ⟨okL, lL, ex⟩ := ok.due M W Ls fl no n2 p2 mem
          obtain ⟨r1, r2⟩ := rp_sides okL n9 lL
          refine ⟨.lst (sidesT Ls), rfl, r1, r2, fun x1 ex1 => ?_⟩
          refine ite2 (fun h => ?_) (fun _ => ?_)
          · have h : (!decide (x1 = r.2.2)) = true := h
            rw [decide_eq_true (ex1.trans ex.symm)] at h
            cases h
          refine nx_upto (k := 8) (E := { nx := nxt _ _, rt := _, bk := _, ct := _, n0 := _ }) rfl (Nat.le_of_ble_eq_true rfl) (Nat.le_of_ble_eq_true rfl) ?_
          exact ⟨_, some (.d (.tup [.int r.1, .int r.2.1])), some (.d (.str r.2.2)), _, rfl⟩
        · rintro s ⟨v10, v11, v12, v13, rfl⟩
          refine ⟨_, rfl, n, A, rfl, rfl, rpA, n9, fun t ht => Nat.le_trans (leA t ht) (by decide), ?_⟩
          refine ⟨.bl true, ?_⟩
          refine ite2 (fun h => nomatch h) (fun _ => ?_)
          refine next_take rfl (Nat.le_of_ble_eq_true rfl) ?_
          exact ⟨_, _, _, _, _, _, _, _, _, _, _, _, rfl⟩
    · rintro s ⟨v2, v3, v4, v5, v6, v7, v8, v9, v10, v11, v12, v13, rfl⟩
      exact q _
end
end TD
set_option Elab.async false
set_option linter.all false
set_option maxRecDepth 100000
namespace TW
open PySem PySem.Spec PyProof.Rows L2
/-! what the top has written -/
def MthD (K : PySem.W.Frag) (C : Addr) (nm qual : Str) (st : Stmt) (ps : List Str) : Prop := ∃ (f : Addr) (fd : FuncData), PySem.W.findIn K (.ref C) nm = some (some (.ref f)) ∧ PySem.W.isFn K (.ref f) = true ∧ Fun K nm qual st f fd ∧ Binds K fd ps []
def PrpD (K : PySem.W.Frag) (C : Addr) (nm qual : Str) (st : Stmt) : Prop := ∃ (p g : Addr) (fd : FuncData), PropOf K C nm p g ∧ Fun K nm qual st g fd ∧ Binds K fd ["self"] []
section
variable {K : PySem.W.Frag} {C f p g : Addr} {nm qual : Str} {st : Stmt} {ps : List Str} {oc kV doc pm cdv ct : Value} {od an : Option Addr} {osl : Array (Option Value)}
theorem mth_mk (hb : ∀ (kV doc pm : Value) (an : Option Addr) (cdv ct : Value) (us : List Value), us.length = ps.length → bindArgs (PySem.W.fnOf nm qual (defArgs st) (defBody st) (defScope st) .none kV doc pm an cdv ct) ⟨us, []⟩ = pure (ps.zip us))
    (a : PySem.W.findIn K (.ref C) nm = some (some (.ref f))) (i : PySem.W.isFn K (.ref f) = true) (l : K.lookup f = some ⟨oc, od, .func (PySem.W.fnOf nm qual (defArgs st) (defBody st) (defScope st) .none kV doc pm an cdv ct), osl⟩) (c : PySem.W.codeIn K cdv qual = true) (k : PySem.W.keepIn K (.ref f) = true) : MthD K C nm qual st ps := by
  have F := fun_mk (st := st) l c k
  exact ⟨f, _, a, i, F, F.binds hb⟩
theorem prp_mk {rest : List Value} (hb : ∀ (kV doc pm : Value) (an : Option Addr) (cdv ct : Value) (us : List Value), us.length = 1 → bindArgs (PySem.W.fnOf nm qual (defArgs st) (defBody st) (defScope st) .none kV doc pm an cdv ct) ⟨us, []⟩ = pure ((["self"] : List Str).zip us))
    (a : PySem.W.findIn K (.ref C) nm = some (some (.ref p))) (e : PySem.W.specialIn K (.ref p) "__get__" = some (some (.builtin "property.__get__"))) (t : PySem.W.takesIn K (.ref p) = some true) (r : PySem.W.recIn K p "property" = some (.ref g :: rest))
    (l : K.lookup g = some ⟨oc, od, .func (PySem.W.fnOf nm qual (defArgs st) (defBody st) (defScope st) .none kV doc pm an cdv ct), osl⟩) (c : PySem.W.codeIn K cdv qual = true) (k : PySem.W.keepIn K (.ref g) = true) : PrpD K C nm qual st := by
  have F := fun_mk (st := st) l c k
  exact ⟨p, g, _, ⟨a, e, t, rest, r⟩, F, F.binds hb⟩
theorem kit_me : PySem.W.kitOne K (.ref C) (.ref C) = some true := by
  unfold PySem.W.kitOne
  first
    | rw [if_pos (beq_self_eq_true (Value.ref C))]
    | simp
    | (rw [if_pos]; decide)
theorem tc_mk {mg : Str → Option Value} {h : Heap} (X : K.In h) (G : h.Ns mainGlobals mg) (aC : PySem.W.nsIn K mainGlobals "Table" = some (some (.ref C))) (pg : PySem.W.plainGet K C Str.empty = true) (hd : PySem.W.hasDictIn K C = true) (po : PySem.W.plainOver K C = true)
    (sa : PySem.W.findIn K (.ref C) "__setattr__" = some (some (.builtin "object.__setattr__"))) (ha : PySem.W.findIn K (.ref C) "__class__" = some (some (.builtin "object.__class__"))) (hn : PySem.W.specialIn K (.builtin "object.__class__") "__get__" = some (some (.builtin "getset_descriptor.__get__")))
    (ht : PySem.W.takesIn K (.builtin "object.__class__") = some true) (hm : PySem.W.mroIn K C (.type "object") = some true) (nT : PySem.W.findIn K (.ref C) "_things" = some none) (nL : PySem.W.findIn K (.ref C) "_lots" = some none) : TC K mg C :=
  ⟨⟨pg, hd, po, sa⟩, ⟨⟨pg, hd, po, sa⟩, ha, hn, ht, hm, kit_me⟩, nT, nL, PySem.W.mg_of X G aC⟩
theorem wc_mk {mg : Str → Option Value} {h : Heap} (X : K.In h) (G : h.Ns mainGlobals mg) (aC : PySem.W.nsIn K mainGlobals "Web" = some (some (.ref C))) (pg : PySem.W.plainGet K C Str.empty = true) (hd : PySem.W.hasDictIn K C = true) (po : PySem.W.plainOver K C = true)
    (sa : PySem.W.findIn K (.ref C) "__setattr__" = some (some (.builtin "object.__setattr__"))) (ha : PySem.W.findIn K (.ref C) "__class__" = some (some (.builtin "object.__class__"))) (hn : PySem.W.specialIn K (.builtin "object.__class__") "__get__" = some (some (.builtin "getset_descriptor.__get__")))
    (ht : PySem.W.takesIn K (.builtin "object.__class__") = some true) (hm : PySem.W.mroIn K C (.type "object") = some true) (nP : PySem.W.findIn K (.ref C) "_places" = some none) (nT : PySem.W.findIn K (.ref C) "_ties" = some none) : WC K mg C :=
  ⟨⟨pg, hd, po, sa⟩, ⟨⟨pg, hd, po, sa⟩, ha, hn, ht, hm, kit_me⟩, nP, nT, PySem.W.mg_of X G aC⟩
end
theorem z_mk {K : PySem.W.Frag} {mg : Str → Option Value} {h : Heap} (X : K.In h) (G : h.Ns mainGlobals mg)
    (h1 : PySem.W.nsIn K mainGlobals "len" = some none) (h2 : PySem.W.nsIn K mainGlobals "int" = some none) (h3 : PySem.W.nsIn K mainGlobals "all" = some none) (h4 : PySem.W.nsIn K mainGlobals "sorted" = some none) (h5 : PySem.W.nsIn K mainGlobals "tuple" = some none)
    (h6 : PySem.W.nsIn K mainGlobals "list" = some none) (h7 : PySem.W.nsIn K mainGlobals "set" = some none) (h8 : PySem.W.nsIn K mainGlobals "type" = some none) (h9 : PySem.W.nsIn K mainGlobals "isinstance" = some none) (h10 : PySem.W.nsIn K mainGlobals "zip" = some none)
    (h11 : PySem.W.nsIn K mainGlobals "range" = some none) (h12 : PySem.W.nsIn K mainGlobals "bool" = some none) (h13 : PySem.W.nsIn K mainGlobals "any" = some none) (h14 : PySem.W.nsIn K mainGlobals "iter" = some none) (h15 : PySem.W.nsIn K mainGlobals "property" = some none) : Z mg :=
  ⟨PySem.W.mg_none_of X G h1, PySem.W.mg_none_of X G h2, PySem.W.mg_none_of X G h3, PySem.W.mg_none_of X G h4, PySem.W.mg_none_of X G h5, PySem.W.mg_none_of X G h6, PySem.W.mg_none_of X G h7, PySem.W.mg_none_of X G h8, PySem.W.mg_none_of X G h9, PySem.W.mg_none_of X G h10, PySem.W.mg_none_of X G h11, PySem.W.mg_none_of X G h12, PySem.W.mg_none_of X G h13, PySem.W.mg_none_of X G h14, PySem.W.mg_none_of X G h15⟩
end TW
set_option Elab.async false
set_option linter.all false
set_option maxRecDepth 100000
namespace TW
open PySem PySem.Spec PyProof.Rows L2
theorem exm_me {K : PySem.W.Frag} {N : Addr} (h1 : PySem.W.subIn K (.ref N) (.type "BaseException") = some true) (h2 : PySem.W.isClsIn K N = true) (h3 : PySem.W.typeIn K (.ref N) = some (.type "type")) (h4 : PySem.W.subIn K (.ref N) (.ref N) = some true) : PySem.W.exmOne K (.ref N) (.ref N) = some true := by
  have h2' : (PySem.W.clsIn K N).isSome = true := h2
  have e1 : (PySem.W.subIn K (.ref N) (.type "BaseException") == some true) = true := by rw [h1]; rfl
  have e2 : ((PySem.W.clsIn K N).isSome && PySem.W.typeIn K (.ref N) == some (.type "type")) = true := by rw [h2', h3]; rfl
  change (if (PySem.W.subIn K (.ref N) (.type "BaseException") == some true) = true then (if ((PySem.W.clsIn K N).isSome && PySem.W.typeIn K (.ref N) == some (.type "type")) = true then PySem.W.subIn K (.ref N) (.ref N) else none) else none) = some true
  rw [if_pos e1, if_pos e2, h4]
theorem tn_mk {K : PySem.W.Frag} {mg : Str → Option Value} {h : Heap} {N : Addr} {x : Str} (X : K.In h) (G : h.Ns mainGlobals mg) (a : PySem.W.nsIn K mainGlobals x = some (some (.ref N))) (ex : PySem.W.excIn K N [.type "ValueError", .type "Exception", .type "BaseException", .type "object"] "ValueError.__new__" = true)
    (k : PySem.W.keepIn K (.ref N) = true) (b : PySem.W.subIn K (.ref N) (.type "BaseException") = some true) (t : PySem.W.typeIn K (.ref N) = some (.type "type")) (ic : PySem.W.isClsIn K N = true) (se : PySem.W.subIn K (.ref N) (.ref N) = some true) : TN K mg x N :=
  ⟨PySem.W.mg_of X G a, ex, k, b, t, exm_me b ic t se⟩
theorem all_law {l : PySem.W.OpenLaw} {w : World} {K : PySem.W.Frag} {mg : Str → Option Value} {fa C : Addr} (hfa : mg "law" = some (.ref fa)) (z : Z mg) (zs : mg "str" = none) (z_min : mg "min" = none) (z_max : mg "max" = none) (z_sum : mg "sum" = none) (z_repr : mg "repr" = none) (z_enumerate : mg "enumerate" = none) (z_reversed : mg "reversed" = none) (T : WC K mg C) (mk : PySem.W.makesIn K C = true) (kc : PySem.W.keepIn K (.ref C) = true)
    (m_i : MthD K C "__init__" "Web.__init__" s_Web_init ["self", "places", "ties"]) (m_t : MthD K C "__iter__" "Web.__iter__" s_Web_iter ["self"]) (m_l : MthD K C "__len__" "Web.__len__" s_Web_len ["self"]) (p_places : PrpD K C "places" "Web.places" s_Web_places) (p_ties : PrpD K C "ties" "Web.ties" s_Web_ties)
    (d1 : Dfn K mg "is_integer" s_is_integer ["value", "least"])
    (d2 : Dfn K mg "is_thing" s_is_thing ["value", "things"])
    (d3 : Dfn K mg "is_ascending" s_is_ascending ["values"])
    (d4 : Dfn K mg "is_lot" s_is_lot ["value", "things"])
    (d5 : Dfn K mg "is_place" s_is_place ["value", "places"])
    (d6 : Dfn K mg "is_told_tie" s_is_told_tie ["value", "places"])
    (d7 : Dfn K mg "is_side" s_is_side ["value", "places"])
    (d8 : Dfn K mg "check_places" s_check_places ["places"])
    (d9 : Dfn K mg "check_side" s_check_side ["side", "places"])
    (d10 : Dfn K mg "check_never" s_check_never ["never", "must", "places"])
    (d11 : Dfn K mg "_joined_ties" s__joined_ties ["ties"])
    (d12 : Dfn K mg "check_web" s_check_web ["web"])
    (d13 : Dfn K mg "ends_of" s_ends_of ["place", "other_place"])
    (d14 : Dfn K mg "cut_of" s_cut_of ["web", "side"])
    (d15 : Dfn K mg "_cut" s__cut ["web", "places"])
    (d16 : Dfn K mg "rooms_of" s_rooms_of ["web"])
    (d17 : Dfn K mg "ways_from" s_ways_from ["starts", "rooms"])
    (d18 : Dfn K mg "least_sides" s_least_sides ["web", "must", "never"])
    (d19 : Dfn K mg "_check_between" s__check_between ["web", "must", "never"])
    (d20 : Dfn K mg "_rooms_left" s__rooms_left ["web", "must", "never"])
    (d21 : Dfn K mg "_shortest_row" s__shortest_row ["rooms", "must", "never"])
    (d22 : Dfn K mg "_outermost_sides" s__outermost_sides ["rooms", "must", "never"])
    (d23 : Dfn K mg "side_with" s_side_with ["side", "places"])
    (d24 : Dfn K mg "_between" s__between ["least", "greatest"])
    (d25 : Dfn K mg "_law_new_jar" s__law_new_jar ["cell"])
    (d26 : Dfn K mg "_law_take" s__law_take ["jar", "upto"])
    (d27 : Dfn K mg "_law_row_of" s__law_row_of ["mask", "many"])
    (d28 : Dfn K mg "_law_mask_of" s__law_mask_of ["row"])
    (d29 : Dfn K mg "_law_has" s__law_has ["mask", "k"])
    (d30 : Dfn K mg "_law_weigh" s__law_weigh ["jar", "heavy"])
    (d31 : Dfn K mg "_law_is_tied" s__law_is_tied ["jar", "way", "a", "b"])
    (d32 : Dfn K mg "_law_draw_ropes" s__law_draw_ropes ["jar", "size"])
    (d33 : Dfn K mg "_law_some_rows" s__law_some_rows ["ropes", "flip"])
    (d34 : Dfn K mg "_law_cut" s__law_cut ["ropes", "mask"])
    (d35 : Dfn K mg "_law_sums" s__law_sums ["size", "ropes"])
    (d36 : Dfn K mg "_law_lows" s__law_lows ["sums", "pins"])
    (d37 : Dfn K mg "_law_draw_pins" s__law_draw_pins ["jar", "size"])
    (d38 : Dfn K mg "_law_due_sides" s__law_due_sides ["sums", "pins", "size"])
    (d39 : Dfn K mg "_law_is_as_told" s__law_is_as_told ["net", "ropes", "size"])
    (d40 : Dfn K mg "law" s_law ["script"]) :
    ∃ fd : FuncData, (∀ (s : Shared) (v : Value), BindsTo s fd ⟨[v], []⟩ [("script", v)]) ∧ ∀ base : Heap, K.In base → base.Ns mainGlobals mg → TD.FnG l.prog w K mg base 9 fa fd ["script"] (TD.spOf (TD.dLaw K)) := by
  obtain ⟨f, fd, F, g, b⟩ := d40
  have e := hfa.symm.trans g
  cases e
  obtain ⟨fi, fdi, ai, ii, Fi, bi⟩ := m_i
  obtain ⟨ft, fdt, at_, it, Ft, bt⟩ := m_t
  obtain ⟨fl, fdl, al, il, Fl, bl⟩ := m_l
  obtain ⟨pp, pg, pfd, Pp, PF, Pb⟩ := p_places
  obtain ⟨lp, lg, lfd, Lp, LF, Lb⟩ := p_ties
  refine ⟨fd, fun s v => ?_, fun base _ _ => ?_⟩
  · obtain ⟨oc, od, kV, doc, pm, an, cdv, ct, osl, rfl, lk, hcd⟩ := F.ex
    exact .of_eq rfl
  · have O1 := ok_is_integer (P := l.prog) (w := w) (base := base) d1 z
    have Oplace := ok_is_place d5 O1
    have Otold := ok_is_told_tie d6 z O1 Oplace
    have Oplaces := ok_check_places d8 O1
    have Oends := ok_ends_of (P := l.prog) (w := w) (base := base) d13 z_min z_max
    have Ojoin := ok_joined (K := K) d11 z Oends
    have M : WM l.prog w K mg base C fi fdi := ⟨⟨mk, ai, ii, kc⟩, ok_winit Fi z T Oplaces Otold Ojoin, bi⟩
    have It : WI l.prog w K mg base C ft fdt := ⟨at_, it, ok_witer Ft z T, bt⟩
    have LN : WLn l.prog w K mg base C fl fdl := ⟨al, il, ok_wlen Fl z T, bl⟩
    have PT : TG l.prog w K mg base C pp pg pfd "places" (spWPlaces C) := ⟨Pp, ok_wplaces PF T, Pb⟩
    have PL : TG l.prog w K mg base C lp lg lfd "ties" (spWTies C) := ⟨Lp, ok_wties LF z T, Lb⟩
    have Oweb := ok_check_web (P := l.prog) (w := w) (base := base) d12 z T
    have O2 := ok_is_thing d2 O1
    have O3 := ok_is_ascending (P := l.prog) (w := w) (base := base) d3 z
    have O4 := ok_is_lot d4 z O2 O3
    have Oside := ok_is_side d7 O4
    have Ocside := ok_check_side d9 Oside
    have Ocut1 := ok_cut d15 It z_sum
    have Ocutof := ok_cut_of' (K := K) d14 T PT Oweb Ocside Ocut1
    have Orooms := ok_rooms_of d16 z T PT It
    have Oways := ok_ways_from (K := K) (P := l.prog) (w := w) (base := base) d17 z
    have Orow := ok_row d21 z Oways
    have Oleft := ok_left d20 z z_min Orooms Orow
    have Oouter := ok_outer d22 z Oways
    have Onever := ok_check_never d10 z Ocside
    have Obetw := ok_check_between d19 T PT Oweb Ocside Onever
    have D1 := TD.DOk.of Obetw TD.sp_between
    have D2 := TD.DOk.of Oleft TD.sp_left
    have D3 := TD.DOk.of Oouter TD.sp_outer
    have D4 := TD.DOk.of Oways TD.sp_ways
    have D5 := TD.d_side_with (P := l.prog) (w := w) (base := base) d23 z
    have D6 := TD.d_between (P := l.prog) (w := w) (base := base) d24 z
    have D7 := TD.DOk.of Ocutof TD.sp_cut_of
    obtain ⟨DL, KL⟩ := TD.d_least_sides (C := C) d18 fun f fd F => TD.g_least_sides F z D1 D2 D3 D6 D4 D5
    have PTi : TG l.prog w K mg base C lp lg lfd "ties" (TD.spTiesN C) := ⟨Lp, TD.ok_ties LF z T, Lb⟩
    have J1 := TD.d_take (P := l.prog) (w := w) (base := base) d26 z
    have J2 := TD.d_new_jar (P := l.prog) (w := w) (base := base) d25 z
    have J3 := TD.d_row_of (P := l.prog) (w := w) (base := base) d27 z
    have J4 := TD.d_weigh d30 J1
    have J5 := TD.d_is_tied d31 J1
    have J6 := TD.d_draw_ropes d32 z J1 J4 J5
    have J7 := TD.d_some_rows (P := l.prog) (w := w) (base := base) d33 z z_reversed
    have J8 := TD.d_sums (P := l.prog) (w := w) (base := base) d35 z z_sum
    have J9 := TD.d_lows (P := l.prog) (w := w) (base := base) d36 z z_min
    have J10 := TD.d_draw_pins d37 z J1
    have J11 := TD.d_due_sides d38 z J9 J3
    have J12 := TD.d_has (P := l.prog) (w := w) (base := base) d29
    have J13 := TD.d_mask_of (P := l.prog) (w := w) (base := base) d28 z z_sum
    have J14 := TD.d_cut d34 z z_sum J12
    have J15 := TD.d_as_told d39 z z_repr T PTi D7 J14 J13
    exact TD.g_law26 F z z_repr z_enumerate T M J2 J1 J6 J7 J8 J10 J3 J11 DL KL J15

end TW
open PySem PySem.W PyProof.Rows
set_option maxHeartbeats 0 in
theorem PySem.Challenge.cw_thingwise_k26_all_least_sides_holds : PySem.Challenge.rw_thingwise_k26_all_least_sides.Holds := by
  w_on; o_law; k_head; (case hw => w_witness2)
  k_fill
  refine TD.walk_g (l := PySem.Challenge.rw_thingwise_k26_all_least_sides) (n := 63) (k := 9) (x := "script") (sp := fun w => TD.spOf (TD.dLaw _)) rfl (by decide) rfl ⟨rfl, by decide, by decide⟩ (fun w h Y => PySem.W.kIn_of Y) ?F (fun _ _ _ _ _ _ hS => TD.law_sp hS)
  case F =>
    intro w mg fa h KX G hmg
    have z : TW.Z mg := by
      refine' TW.z_mk KX G ?_ ?_ ?_ ?_ ?_ ?_ ?_ ?_ ?_ ?_ ?_ ?_ ?_ ?_ ?_
      all_goals k_is
    have zs : mg "str" = none := by
      refine' PySem.W.mg_none_of KX G ?_
      k_is
    have z_min : mg "min" = none := by
      refine' PySem.W.mg_none_of KX G ?_
      k_is
    have z_max : mg "max" = none := by
      refine' PySem.W.mg_none_of KX G ?_
      k_is
    have z_sum : mg "sum" = none := by
      refine' PySem.W.mg_none_of KX G ?_
      k_is
    have z_repr : mg "repr" = none := by
      refine' PySem.W.mg_none_of KX G ?_
      k_is
    have z_enumerate : mg "enumerate" = none := by
      refine' PySem.W.mg_none_of KX G ?_
      k_is
    have z_reversed : mg "reversed" = none := by
      refine' PySem.W.mg_none_of KX G ?_
      k_is
    refine' TW.all_law (C := ?C)  hmg z zs z_min z_max z_sum z_repr z_enumerate z_reversed  ?T ?mk ?kc ?m_i ?m_t ?m_l ?p_places ?p_ties ?d1 ?d2 ?d3 ?d4 ?d5 ?d6 ?d7 ?d8 ?d9 ?d10 ?d11 ?d12 ?d13 ?d14 ?d15 ?d16 ?d17 ?d18 ?d19 ?d20 ?d21 ?d22 ?d23 ?d24 ?d25 ?d26 ?d27 ?d28 ?d29 ?d30 ?d31 ?d32 ?d33 ?d34 ?d35 ?d36 ?d37 ?d38 ?d39 ?d40
    case T =>
      refine' TW.wc_mk KX G ?aC ?pg ?hd ?po ?sa ?ha ?hn ?ht ?hm ?nP ?nT
      (case aC => k_is); (case pg => k_is); (case hd => k_is); (case po => k_is); (case sa => k_is); (case ha => k_is); (case hn => k_is); (case ht => k_is); (case hm => k_is); (case nP => k_is); (case nT => k_is)
    case mk => k_is
    case kc => k_is
    case m_i => refine' TW.mth_mk (fun _ _ _ _ _ _ us hl => match us, hl with | [_, _, _], _ => rfl) ?a ?i ?l ?c ?k; (case a => k_is); (case i => k_is); (case l => k_is); (case c => k_is); (case k => k_is)
    case m_t => refine' TW.mth_mk (fun _ _ _ _ _ _ us hl => match us, hl with | [_], _ => rfl) ?a ?i ?l ?c ?k; (case a => k_is); (case i => k_is); (case l => k_is); (case c => k_is); (case k => k_is)
    case m_l => refine' TW.mth_mk (fun _ _ _ _ _ _ us hl => match us, hl with | [_], _ => rfl) ?a ?i ?l ?c ?k; (case a => k_is); (case i => k_is); (case l => k_is); (case c => k_is); (case k => k_is)
    case p_places => refine' TW.prp_mk (fun _ _ _ _ _ _ us hl => match us, hl with | [_], _ => rfl) ?a ?e ?t ?r ?l ?c ?k; (case a => k_is); (case e => k_is); (case t => k_is); (case r => k_is); (case l => k_is); (case c => k_is); (case k => k_is)
    case p_ties => refine' TW.prp_mk (fun _ _ _ _ _ _ us hl => match us, hl with | [_], _ => rfl) ?a ?e ?t ?r ?l ?c ?k; (case a => k_is); (case e => k_is); (case t => k_is); (case r => k_is); (case l => k_is); (case c => k_is); (case k => k_is)
    case d1 => refine' TW.dfn_mk KX G (fun _ _ _ _ _ _ _ us hl => match us, hl with | [_, _], _ => rfl) ?a ?l ?c ?k; (case a => k_is); (case l => k_is); (case c => k_is); (case k => k_is)
    case d2 => refine' TW.dfn_mk KX G (fun _ _ _ _ _ _ _ us hl => match us, hl with | [_, _], _ => rfl) ?a ?l ?c ?k; (case a => k_is); (case l => k_is); (case c => k_is); (case k => k_is)
    case d3 => refine' TW.dfn_mk KX G (fun _ _ _ _ _ _ _ us hl => match us, hl with | [_], _ => rfl) ?a ?l ?c ?k; (case a => k_is); (case l => k_is); (case c => k_is); (case k => k_is)
    case d4 => refine' TW.dfn_mk KX G (fun _ _ _ _ _ _ _ us hl => match us, hl with | [_, _], _ => rfl) ?a ?l ?c ?k; (case a => k_is); (case l => k_is); (case c => k_is); (case k => k_is)
    case d5 => refine' TW.dfn_mk KX G (fun _ _ _ _ _ _ _ us hl => match us, hl with | [_, _], _ => rfl) ?a ?l ?c ?k; (case a => k_is); (case l => k_is); (case c => k_is); (case k => k_is)
    case d6 => refine' TW.dfn_mk KX G (fun _ _ _ _ _ _ _ us hl => match us, hl with | [_, _], _ => rfl) ?a ?l ?c ?k; (case a => k_is); (case l => k_is); (case c => k_is); (case k => k_is)
    case d7 => refine' TW.dfn_mk KX G (fun _ _ _ _ _ _ _ us hl => match us, hl with | [_, _], _ => rfl) ?a ?l ?c ?k; (case a => k_is); (case l => k_is); (case c => k_is); (case k => k_is)
    case d8 => refine' TW.dfn_mk KX G (fun _ _ _ _ _ _ _ us hl => match us, hl with | [_], _ => rfl) ?a ?l ?c ?k; (case a => k_is); (case l => k_is); (case c => k_is); (case k => k_is)
    case d9 => refine' TW.dfn_mk KX G (fun _ _ _ _ _ _ _ us hl => match us, hl with | [_, _], _ => rfl) ?a ?l ?c ?k; (case a => k_is); (case l => k_is); (case c => k_is); (case k => k_is)
    case d10 => refine' TW.dfn_mk KX G (fun _ _ _ _ _ _ _ us hl => match us, hl with | [_, _, _], _ => rfl) ?a ?l ?c ?k; (case a => k_is); (case l => k_is); (case c => k_is); (case k => k_is)
    case d11 => refine' TW.dfn_mk KX G (fun _ _ _ _ _ _ _ us hl => match us, hl with | [_], _ => rfl) ?a ?l ?c ?k; (case a => k_is); (case l => k_is); (case c => k_is); (case k => k_is)
    case d12 => refine' TW.dfn_mk KX G (fun _ _ _ _ _ _ _ us hl => match us, hl with | [_], _ => rfl) ?a ?l ?c ?k; (case a => k_is); (case l => k_is); (case c => k_is); (case k => k_is)
    case d13 => refine' TW.dfn_mk KX G (fun _ _ _ _ _ _ _ us hl => match us, hl with | [_, _], _ => rfl) ?a ?l ?c ?k; (case a => k_is); (case l => k_is); (case c => k_is); (case k => k_is)
    case d14 => refine' TW.dfn_mk KX G (fun _ _ _ _ _ _ _ us hl => match us, hl with | [_, _], _ => rfl) ?a ?l ?c ?k; (case a => k_is); (case l => k_is); (case c => k_is); (case k => k_is)
    case d15 => refine' TW.dfn_mk KX G (fun _ _ _ _ _ _ _ us hl => match us, hl with | [_, _], _ => rfl) ?a ?l ?c ?k; (case a => k_is); (case l => k_is); (case c => k_is); (case k => k_is)
    case d16 => refine' TW.dfn_mk KX G (fun _ _ _ _ _ _ _ us hl => match us, hl with | [_], _ => rfl) ?a ?l ?c ?k; (case a => k_is); (case l => k_is); (case c => k_is); (case k => k_is)
    case d17 => refine' TW.dfn_mk KX G (fun _ _ _ _ _ _ _ us hl => match us, hl with | [_, _], _ => rfl) ?a ?l ?c ?k; (case a => k_is); (case l => k_is); (case c => k_is); (case k => k_is)
    case d18 => refine' TW.dfn_mk KX G (fun _ _ _ _ _ _ _ us hl => match us, hl with | [_, _, _], _ => rfl) ?a ?l ?c ?k; (case a => k_is); (case l => k_is); (case c => k_is); (case k => k_is)
    case d19 => refine' TW.dfn_mk KX G (fun _ _ _ _ _ _ _ us hl => match us, hl with | [_, _, _], _ => rfl) ?a ?l ?c ?k; (case a => k_is); (case l => k_is); (case c => k_is); (case k => k_is)
    case d20 => refine' TW.dfn_mk KX G (fun _ _ _ _ _ _ _ us hl => match us, hl with | [_, _, _], _ => rfl) ?a ?l ?c ?k; (case a => k_is); (case l => k_is); (case c => k_is); (case k => k_is)
    case d21 => refine' TW.dfn_mk KX G (fun _ _ _ _ _ _ _ us hl => match us, hl with | [_, _, _], _ => rfl) ?a ?l ?c ?k; (case a => k_is); (case l => k_is); (case c => k_is); (case k => k_is)
    case d22 => refine' TW.dfn_mk KX G (fun _ _ _ _ _ _ _ us hl => match us, hl with | [_, _, _], _ => rfl) ?a ?l ?c ?k; (case a => k_is); (case l => k_is); (case c => k_is); (case k => k_is)
    case d23 => refine' TW.dfn_mk KX G (fun _ _ _ _ _ _ _ us hl => match us, hl with | [_, _], _ => rfl) ?a ?l ?c ?k; (case a => k_is); (case l => k_is); (case c => k_is); (case k => k_is)
    case d24 => refine' TW.dfn_mk KX G (fun _ _ _ _ _ _ _ us hl => match us, hl with | [_, _], _ => rfl) ?a ?l ?c ?k; (case a => k_is); (case l => k_is); (case c => k_is); (case k => k_is)
    case d25 => refine' TW.dfn_mk KX G (fun _ _ _ _ _ _ _ us hl => match us, hl with | [_], _ => rfl) ?a ?l ?c ?k; (case a => k_is); (case l => k_is); (case c => k_is); (case k => k_is)
    case d26 => refine' TW.dfn_mk KX G (fun _ _ _ _ _ _ _ us hl => match us, hl with | [_, _], _ => rfl) ?a ?l ?c ?k; (case a => k_is); (case l => k_is); (case c => k_is); (case k => k_is)
    case d27 => refine' TW.dfn_mk KX G (fun _ _ _ _ _ _ _ us hl => match us, hl with | [_, _], _ => rfl) ?a ?l ?c ?k; (case a => k_is); (case l => k_is); (case c => k_is); (case k => k_is)
    case d28 => refine' TW.dfn_mk KX G (fun _ _ _ _ _ _ _ us hl => match us, hl with | [_], _ => rfl) ?a ?l ?c ?k; (case a => k_is); (case l => k_is); (case c => k_is); (case k => k_is)
    case d29 => refine' TW.dfn_mk KX G (fun _ _ _ _ _ _ _ us hl => match us, hl with | [_, _], _ => rfl) ?a ?l ?c ?k; (case a => k_is); (case l => k_is); (case c => k_is); (case k => k_is)
    case d30 => refine' TW.dfn_mk KX G (fun _ _ _ _ _ _ _ us hl => match us, hl with | [_, _], _ => rfl) ?a ?l ?c ?k; (case a => k_is); (case l => k_is); (case c => k_is); (case k => k_is)
    case d31 => refine' TW.dfn_mk KX G (fun _ _ _ _ _ _ _ us hl => match us, hl with | [_, _, _, _], _ => rfl) ?a ?l ?c ?k; (case a => k_is); (case l => k_is); (case c => k_is); (case k => k_is)
    case d32 => refine' TW.dfn_mk KX G (fun _ _ _ _ _ _ _ us hl => match us, hl with | [_, _], _ => rfl) ?a ?l ?c ?k; (case a => k_is); (case l => k_is); (case c => k_is); (case k => k_is)
    case d33 => refine' TW.dfn_mk KX G (fun _ _ _ _ _ _ _ us hl => match us, hl with | [_, _], _ => rfl) ?a ?l ?c ?k; (case a => k_is); (case l => k_is); (case c => k_is); (case k => k_is)
    case d34 => refine' TW.dfn_mk KX G (fun _ _ _ _ _ _ _ us hl => match us, hl with | [_, _], _ => rfl) ?a ?l ?c ?k; (case a => k_is); (case l => k_is); (case c => k_is); (case k => k_is)
    case d35 => refine' TW.dfn_mk KX G (fun _ _ _ _ _ _ _ us hl => match us, hl with | [_, _], _ => rfl) ?a ?l ?c ?k; (case a => k_is); (case l => k_is); (case c => k_is); (case k => k_is)
    case d36 => refine' TW.dfn_mk KX G (fun _ _ _ _ _ _ _ us hl => match us, hl with | [_, _], _ => rfl) ?a ?l ?c ?k; (case a => k_is); (case l => k_is); (case c => k_is); (case k => k_is)
    case d37 => refine' TW.dfn_mk KX G (fun _ _ _ _ _ _ _ us hl => match us, hl with | [_, _], _ => rfl) ?a ?l ?c ?k; (case a => k_is); (case l => k_is); (case c => k_is); (case k => k_is)
    case d38 => refine' TW.dfn_mk KX G (fun _ _ _ _ _ _ _ us hl => match us, hl with | [_, _, _], _ => rfl) ?a ?l ?c ?k; (case a => k_is); (case l => k_is); (case c => k_is); (case k => k_is)
    case d39 => refine' TW.dfn_mk KX G (fun _ _ _ _ _ _ _ us hl => match us, hl with | [_, _, _], _ => rfl) ?a ?l ?c ?k; (case a => k_is); (case l => k_is); (case c => k_is); (case k => k_is)
    case d40 => refine' TW.dfn_mk KX G (fun _ _ _ _ _ _ _ us hl => match us, hl with | [_], _ => rfl) ?a ?l ?c ?k; (case a => k_is); (case l => k_is); (case c => k_is); (case k => k_is)
