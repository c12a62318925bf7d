import PyProof.Rows.All
import Wide.All
import OpenK.AllK
import Wide.FinOn
import HandS.ForMost
import HandS.Evl
import HandS.Steps
import HandS.Wide
import HandS.IsInst
import HandS.Exc
import HandS.ExcOwn
import HandS.TryOnly
import HandS.WordsExc
import HandS.Defaults
import HandS.ExcSuper
import PyProof.ReprRoads
import PyProof.ReprLen
import KE.KExcSuper
import KE.KSuper
import HandS.ExcValue
import HandS.ExcInit
import HandS.ExcIs
import KE.KExcIs
import PySem.Challenge.RW_imagetones_k00_errors_made
set_option Elab.async false
set_option linter.all false
set_option maxRecDepth 100000
namespace HX
open PySem PySem.Spec PyProof.Rows L2

/-! ### defs whose callers are known to be no repr of anything (so repr's own guard is silent) -/
structure FnG (P : Program) (w : World) (K : PySem.W.Frag) (mg : Str → Option Value) (base : Heap) (CX : CXT) (k : Nat) (f : Addr) (fd : FuncData) (ps : List Str) (sp : Sp) : Prop where
  len : ∀ vs H Q E, sp vs H Q E → vs.length = ps.length
  run : ∀ (A : Around) (outer : List Env) (s : Shared) (H : Hp) (args : Args) (us : List Value) (vs : List V) (Q : VK) (E : XK),
    A.guards = some [] → Room k A → Env0 P w K mg base A outer s H → BindsTo s fd args (ps.zip us) → Vals vs us → sp vs H Q E →
      codeAny (model P w) A (.call (.ref f) args) (CR CX outer P w H s Q E) s

section
variable {P : Program} {w : World} {K : PySem.W.Frag} {mg : Str → Option Value} {base : Heap} {CX : CXT} {k j : Nat} {f : Addr} {fd : FuncData} {ps : List Str} {sp : Sp}
theorem FnG.of (F : FnOk P w K mg base CX k f fd ps sp) : FnG P w K mg base CX k f fd ps sp :=
  ⟨F.len, fun A outer s H args us vs Q E _ => F.run A outer s H args us vs Q E⟩
theorem FnG.mono (F : FnG P w K mg base CX j f fd ps sp) (h : j ≤ k) : FnG P w K mg base CX k f fd ps sp :=
  ⟨F.len, fun A outer s H args us vs Q E g r => F.run A outer s H args us vs Q E g (r.mono h)⟩

theorem okG {x qual : Str} {st : Stmt} {N : List Str} (F : Fun K x qual st f fd) (S : FnScope N ps (defScope st)) (len : ∀ vs H Q E, sp vs H Q E → vs.length = ps.length)
    (hbody : ∀ (cdv : Value) (A : Around) (outer : List Env) (s : Shared) (H : Hp) (vs : List V) (Q : VK) (E : XK), A.guards = some [] →
      Room k (A.deeper (envOfC qual (defScope st) s.heap.objs.size f cdv)) → sp vs H Q E →
      ∃ t, PSs (cxOf CX P w K mg base N qual (defScope st) f cdv A outer s H E) (defBody st) t ∧ t { nx := fun _ H' => Q .non H', rt := Q } (start N vs) H) :
    FnG P w K mg base CX (k + 1) f fd ps sp := by
  obtain ⟨oc, od, kV, doc, pm, an, cdv, ct, osl, rfl, lk, hcd⟩ := F.ex
  constructor
  · exact len
  intro A outer s H args us vs Q E hgd hr e0 hb r hsp
  have hl := len _ _ _ _ hsp
  have kept : ∀ b o, base.get? b = some o → s.heap.get? b = some o := fun b o e => (e0.bs b o e).1
  have KX : K.In s.heap := e0.mod.kin.keeps kept
  have lim : s.heap.NoLimit := e0.mod.nolimit.keeps kept
  have hkind : ∀ y ∈ ps.zip us, (defScope st).names.lookup y.1 = some .local ∨
      ((defScope st).names.lookup y.1 = some .cell ∧ ((cellsFrom (s.heap.objs.size + 1) (defScope st).names []).lookup y.1).isSome = true) := by
    rintro ⟨n, v⟩ hy
    rcases S.par n (List.of_mem_zip hy).1 with q | q
    · exact .inl q
    · exact .inr ⟨q, PySem.W.cellsFrom_some _ _ _ (.inl q)⟩
  apply codeAny_call_function hr.depth (KX _ _ lk) rfl S.co S.gen rfl (PySem.W.codeRec_of KX hcd)
  apply hb
  refine wpAny_newFunctionEnv_cells S.kind hkind fun env he s1 x => ?_
  subst he
  refine ⟨lim.keeps x.toInCall.keep, codeAny_func ?_⟩
  obtain ⟨t, ht, hq⟩ := hbody cdv A outer s H vs Q E hgd (hr.deeper _) hsp
  have I := inv_start (CX := CX) (E := E) S hr.hd e0 hl r x
  refine wpAny_mono (ht.run [] s1 (start N vs) H _ I hq) (fun fl s' hs => ?_) fun e s' hs => hs
  cases fl with
  | ret u => obtain ⟨v, σ', H', J, rv, q⟩ := hs; exact ⟨v, H', J.os, J.bare, J.base, J.hok, rv, q⟩
  | next => obtain ⟨σ', H', J, q⟩ := hs; exact ⟨V.non, H', J.os, J.bare, J.base, J.hok, rfl, q⟩
  | brk => obtain ⟨_, _, _, q⟩ := hs; exact q.elim
  | cont => obtain ⟨_, _, _, q⟩ := hs; exact q.elim
end

section
variable {X : Cx} {CX : CXT} {k : Nat} {f : Addr} {fd : FuncData} {ps : List Str} {sp : Sp} {dvs : List V} {ds : List Value} {E : XK} {x : Str} {p pos : Pos} {e : Expr} {es : List Expr} {t : TA}
theorem run_g {pins : List (Addr × Obj)} {σ : L2.St} {H : Hp} {s : Shared} {Q : VK} {us : List Value} {vs : List V} (F : FnG X.prog X.w X.K X.mg X.base CX k f fd ps sp) (hgd : X.A.guards = some []) (hr : Room k X.A)
    (hb : Binds X.K fd ps ds) (hd : Vals dvs ds) (hx : Passes CX X E) (I : Inv X pins σ H s) (r : Vals vs us) (h : sp (vs ++ dvs) H Q E) :
    wpAny (model X.prog X.w) X.A (call (.ref f) us) (EP X pins σ Q) X.xe s := by
  have r2 : Vals (vs ++ dvs) (us ++ ds) := r.append hd
  have hl : (us ++ ds).length = ps.length := r2.length.symm.trans (F.len _ _ _ _ h)
  apply wpAny_call
  refine codeAny_mono (F.run X.A X.stack s H ⟨us, []⟩ (us ++ ds) (vs ++ dvs) Q E hgd hr I.env0 (hb s us I.kIn hl) r2 h) ?_
  intro r s' hq
  match r, hq with
  | .error e, hq => exact hx pins σ H s e s' I hq
  | .ok (.ret u), hq => exact I.after hq

/-- f(e, ..) of such a def -/
theorem pe_callG (F : FnG X.prog X.w X.K X.mg X.base CX k f fd ps sp) (hgd : X.A.guards = some []) (hr : Room k X.A) (hg : Gl X x) (hm : X.mg x = some (.ref f)) (hk : PySem.W.keepIn X.K (.ref f) = true)
    (hb : Binds X.K fd ps ds) (hd : Vals dvs ds) (hx : Passes CX X E) (ha : PA X (e :: es) t) (hdb : (x == ("__debug__" : Str)) = false := by decide)
    (he : starEach (e :: es) X.env = (false, eval e X.env) :: starEach es X.env := by rfl) (hpl : (backTo pos (starEach es X.env)).any (·.1) = false := by rfl) :
    PE X (.Call (.Name x p) (e :: es) [] pos) (tCall sp dvs E t) := by
  constructor
  intro pins s σ H Q I h
  apply wpAny_Call_Name_kw
  refine ld_glob I hg hm ?_ hdb
  refine PySem.W.callWith_K (h₀ := X.base) I.ok.mod.kin hk ?_ he hpl
  refine thn (ha.run pos pins s σ H _ I h) ?_
  rintro us s1 ⟨vs, H1, I1, r, q⟩
  exact ⟨I1.kIn, run_g F hgd hr hb hd hx I1 r q⟩
end

/-! ### numbers -/
section
variable {X : Cx}
/-- ** of a base of at most b bits with a written exponent -/
def CPowW (i j : Int) : Prop := 0 ≤ j ∧ (Builtin.Int.intBits i : Int) * j ≤ 2 ^ 27
theorem op_powW : OpR X (binaryOp .Pow) (rI CPowW fun i j => .int (i ^ j.toNat)) := opI fun _ _ _ _ _ _ _ hc q => PyProof.Rows.pow_int hc.1 hc.2 q
end
theorem wide_pow {i j : Int} {b : Nat} (h : i.natAbs < 2 ^ b) (h0 : 0 ≤ j) (hb : ((b : Int) + 1) * j ≤ 2 ^ 27) : CPowW i j := by
  have hle : Builtin.Int.intBits i ≤ b + 1 := by
    unfold Builtin.Int.intBits
    split
    · omega
    · rename_i hz
      by_cases hb0 : b = 0
      · subst hb0
        have hz0 : i.natAbs = 0 := by simpa using h
        rw [hz0]
        decide
      · have hq : i.natAbs.log2 < b := PySem.Flt.log2_lt_of (Nat.pos_of_ne_zero hb0) h
        omega
  refine ⟨h0, Int.le_trans ?_ hb⟩
  exact Int.mul_le_mul_of_nonneg_right (by omega) h0
end HX

set_option Elab.async false
set_option linter.all false
set_option maxRecDepth 100000
namespace HX
open PySem PySem.Spec PyProof.Rows L2

/-! ### data at any depth that is tracked: none, bools, ints, texts, lists, tuples, the empty dict -/
mutual
inductive Dq (H : Hp) : V → PyData → Prop
  | non : Dq H .non .none
  | bl (b : Bool) : Dq H (.bl b) (.bool b)
  | int (i : Int) : Dq H (.int i) (.int i)
  | str (x : Str) : Dq H (.str x) (.str x)
  | lst {a : Addr} {xs : List V} {ds : List PyData} : Rd H a (.lst xs) → DqAll H xs ds → Dq H (.ref a) (.list ds)
  | tup {a : Addr} {xs : List V} {ds : List PyData} : Rd H a (.tup xs) → DqAll H xs ds → Dq H (.ref a) (.tuple ds)
  | dic {a : Addr} : H a = some (.dK []) → Dq H (.ref a) (.dict [])
inductive DqAll (H : Hp) : List V → List PyData → Prop
  | nil : DqAll H [] []
  | cons {v : V} {vs : List V} {d : PyData} {ds : List PyData} : Dq H v d → DqAll H vs ds → DqAll H (v :: vs) (d :: ds)
end

open Evl (Ex)
mutual
theorem Dq.ex {H H' : Hp} (e : Ex H H') : ∀ {v : V} {d : PyData}, Dq H v d → Dq H' v d
  | _, _, .non => .non
  | _, _, .bl b => .bl b
  | _, _, .int i => .int i
  | _, _, .str x => .str x
  | _, _, .lst h k => .lst (Evl.ex_rd e h) (DqAll.ex e k)
  | _, _, .tup h k => .tup (Evl.ex_rd e h) (DqAll.ex e k)
  | _, _, .dic h => .dic (e _ _ h)
theorem DqAll.ex {H H' : Hp} (e : Ex H H') : ∀ {vs : List V} {ds : List PyData}, DqAll H vs ds → DqAll H' vs ds
  | _, _, .nil => .nil
  | _, _, .cons h k => .cons (Dq.ex e h) (DqAll.ex e k)
end
theorem DqAll.len {H : Hp} : ∀ {vs : List V} {ds : List PyData}, DqAll H vs ds → vs.length = ds.length
  | _, _, .nil => rfl
  | _, _, .cons _ k => congrArg (· + 1) k.len
theorem DqAll.app {H : Hp} : ∀ {vs ws : List V} {ds es : List PyData}, DqAll H vs ds → DqAll H ws es → DqAll H (vs ++ ws) (ds ++ es)
  | _, _, _, _, .nil, k => k
  | _, _, _, _, .cons h t, k => .cons h (t.app k)
theorem DqAll.get {H : Hp} : ∀ {vs : List V} {ds : List PyData} {i : Nat} {v : V}, DqAll H vs ds → vs[i]? = some v → ∃ d, ds[i]? = some d ∧ Dq H v d
  | _, _, _, _, .nil, e => by simp at e
  | _, _, 0, _, .cons h _, e => by simp at e; subst e; exact ⟨_, rfl, h⟩
  | _, _, i + 1, v, .cons _ t, e => by
    obtain ⟨d, h1, h2⟩ := DqAll.get (i := i) (v := v) t (by simpa using e)
    exact ⟨d, by simpa using h1, h2⟩
theorem DqAll.one {H : Hp} {v : V} {d : PyData} (h : Dq H v d) : DqAll H [v] [d] := .cons h .nil
theorem DqAll.rep {H : Hp} {v : V} {d : PyData} (h : Dq H v d) : ∀ n, DqAll H (List.replicate n v) (List.replicate n d)
  | 0 => .nil
  | n + 1 => .cons h (DqAll.rep h n)
theorem DqAll.take {H : Hp} : ∀ {vs : List V} {ds : List PyData} (n : Nat), DqAll H vs ds → DqAll H (vs.take n) (ds.take n)
  | _, _, 0, _ => by simpa using DqAll.nil
  | _, _, _ + 1, .nil => by simpa using DqAll.nil
  | _, _, n + 1, .cons h t => by simpa using DqAll.cons h (t.take n)
theorem DqAll.drop {H : Hp} : ∀ {vs : List V} {ds : List PyData} (n : Nat), DqAll H vs ds → DqAll H (vs.drop n) (ds.drop n)
  | _, _, 0, k => by simpa using k
  | _, _, _ + 1, .nil => by simpa using DqAll.nil
  | _, _, n + 1, .cons h t => by simpa using t.drop n
/-- an object of data is none that changes: what changes is elsewhere -/
theorem dq_ne {H : Hp} {a : Addr} {o u : HO} (h : H a = some o) (k : Rd H a u) (d : o ≠ u) (f : ∀ ob, o ≠ .frz ob u) : False := by
  rcases k with k | ⟨ob, k⟩
  · exact d (Option.some.inj (h.symm.trans k))
  · exact f ob (Option.some.inj (h.symm.trans k))

mutual
theorem Dq.dp {K : PySem.W.Frag} {H : Hp} : ∀ {v : V} {d : PyData}, Dq H v d → d.hasDict = false → Dp K H v d
  | _, _, .non, _ => .non
  | _, _, .bl b, _ => .bl b
  | _, _, .int i, _ => .int i
  | _, _, .str x, _ => .str x
  | _, _, .lst h k, e => .lst (.inl h) (DqAll.dp k (by simpa [PyData.hasDict] using e))
  | _, _, .tup h k, e => .tup (.inl h) (DqAll.dp k (by simpa [PyData.hasDict] using e))
  | _, _, .dic h, e => by simp [PyData.hasDict] at e
theorem DqAll.dp {K : PySem.W.Frag} {H : Hp} : ∀ {vs : List V} {ds : List PyData}, DqAll H vs ds → PyData.hasDictAll ds = false → DpAll K H vs ds
  | _, _, .nil, _ => .nil
  | _, _, .cons h k, e => by
    simp only [PyData.hasDictAll, Bool.or_eq_false_iff] at e
    exact .cons (h.dp e.1) (k.dp e.2)
end

section
variable {X : Cx} {pins : List (Addr × Obj)} {σ : L2.St} {H : Hp} {s : Shared}
/-- an empty dict that is tracked, as the heap has it -/
theorem dic_at (I : Inv X pins σ H s) {a : Addr} (h : H a = some (.dK [])) : ∃ o n, s.heap.get? a = some o ∧ o.cls = .type "dict" ∧ o.data = .dict #[] n ∧ (a == sysModules) = false := by
  obtain ⟨_, hsys, vs, kv, o, es, ep, h1, h2, h3, h4⟩ := (show ObjOk X.prog X.w H s.heap a (.dK []) from I.hok a _ h)
  cases kv
  have he : es.toList = [] := List.length_eq_zero_iff.mp (by simpa using h4.2.1.length)
  have he2 : es = #[] := by cases es; simpa using he
  exact ⟨o, ep, h1, h2.1, by rw [← he2]; exact h3, hsys⟩
mutual
theorem Dq.rk (I : Inv X pins σ H s) : ∀ {d : PyData} {v : V} {u : Value}, Dq H v d → RelV v u → d.showable = true → d.shown.length ≤ sizeLine →
    ∃ as bs, Reads s.heap u d as ∧ ReadAtMost s.heap d.depth bs ∧ ReprK X.prog X.w bs s.heap d.depth u d.shown
  | _, _, _, .non, r, _, _ => by cases r; exact ⟨_, [], Reads.none, (fun _ h => nomatch h), by simp only [PyData.shown]; exact .of_is ReprIs.none _ _ _⟩
  | _, _, _, .bl b, r, _, _ => by cases r; exact ⟨_, [], Reads.bool b, (fun _ h => nomatch h), by simp only [PyData.shown]; exact .of_is (ReprIs.bool b) _ _ _⟩
  | _, _, _, .int i, r, hs, _ => by
    obtain ⟨t, rfl⟩ := r
    exact ⟨_, [], Reads.int i t, (fun _ h => nomatch h), by simp only [PyData.shown]; exact .of_is (ReprIs.int t (by simpa [PyData.showable] using hs)) _ _ _⟩
  | _, _, _, .str x, r, _, hz => by
    obtain ⟨t, rfl⟩ := r
    exact ⟨_, [], Reads.str x t, (fun _ h => nomatch h), by simp only [PyData.shown]; exact .of_is (ReprIs.str x t (by simpa only [PyData.shown] using hz)) _ _ _⟩
  | _, _, _, .lst (a := a) (ds := ds) hs ha, r, hw, hz => by
    cases r
    have hz' : (listText (PyData.shownAll ds)).length ≤ sizeLine := by simpa only [PyData.shown] using hz
    obtain ⟨its, rv, ⟨o, n, ho, hc, _, hd⟩, _⟩ := I.list (X := X) (Or.inl hs)
    obtain ⟨as, bs, hr, hb, hk⟩ := DqAll.rk I ha rv (by simpa [PyData.showable] using hw) (fun t ht => Nat.le_trans (listText_mem_le ht) hz')
    have r : Reads s.heap (.ref a) (.list ds) _ := .list ho hc hd (by simpa using hr)
    have hna : a ∉ bs := not_mem_of_deeper r (by simp only [PyData.depth]; omega) hb
    refine ⟨_, a :: bs, r, ReadAtMost.cons r (by simp only [PyData.depth]; omega) hb, ?_⟩
    simp only [PyData.depth, PyData.shown]
    cases its with
    | nil =>
      cases hr
      simp only [PyData.shownAll, listText_nil]
      exact ReprK.listEmpty ho hc hd
    | cons x l => exact ReprK.list ho hc hd hna (by simpa using hk.length_eq) (fun i y e => hk.item i y (by simpa using e))
  | _, _, _, .tup (a := a) (ds := ds) hs ha, r, hw, hz => by
    cases r
    have hz' : (tupleText (PyData.shownAll ds)).length ≤ sizeLine := by simpa only [PyData.shown] using hz
    obtain ⟨its, rv, ⟨o, ho, hc, n, hd⟩, _⟩ := I.tuple (X := X) (Or.inl hs)
    obtain ⟨as, bs, hr, hb, hk⟩ := DqAll.rk I ha rv (by simpa [PyData.showable] using hw) (fun t ht => Nat.le_trans (tupleText_mem_le ht) hz')
    have r : Reads s.heap (.ref a) (.tuple ds) _ := .tuple ho hc hd (by simpa using hr)
    have hna : a ∉ bs := not_mem_of_deeper r (by simp only [PyData.depth]; omega) hb
    refine ⟨_, a :: bs, r, ReadAtMost.cons r (by simp only [PyData.depth]; omega) hb, ?_⟩
    simp only [PyData.depth, PyData.shown]
    exact ReprK.tuple ho hc hd hna (by simpa using hk)
  | _, _, _, .dic (a := a) ha, r, _, _ => by
    cases r
    obtain ⟨o, n, ho, hc, hd, hsys⟩ := dic_at I ha
    have r : Reads s.heap (.ref a) (.dict []) _ := .dict (kvs := []) ho hc hd .nil .nil
    refine ⟨_, [a], r, ReadAtMost.cons r (Nat.le_refl _) (fun _ h => nomatch h), ?_⟩
    simp only [PyData.depth, PyData.shown, PyData.shownKv]
    exact ReprK.dict ho hc hd hsys (by simp) .nil
theorem DqAll.rk (I : Inv X pins σ H s) : ∀ {ds : List PyData} {vs : List V} {us : List Value}, DqAll H vs ds → Vals vs us → PyData.showableAll ds = true → (∀ t ∈ PyData.shownAll ds, t.length ≤ sizeLine) →
    ∃ as bs, ReadsAll s.heap us ds as ∧ ReadAtMost s.heap (PyData.depthAll ds) bs ∧ ReprAllK X.prog X.w bs s.heap (PyData.depthAll ds) us (PyData.shownAll ds)
  | _, _, _, .nil, r, _, _ => by cases r; exact ⟨_, [], ReadsAll.nil, (fun _ h => nomatch h), by simp only [PyData.shownAll]; exact .nil⟩
  | _, _, _, .cons (d := d) (ds := ds) h1 h2, r, hw, hz => by
    cases r with
    | cons r1 r2 =>
      have hw' : d.showable = true ∧ PyData.showableAll ds = true := by simpa [PyData.showableAll] using hw
      obtain ⟨as, b1, q1, z1, k1⟩ := Dq.rk I h1 r1 hw'.1 (hz _ (by simp only [PyData.shownAll]; exact List.mem_cons_self))
      obtain ⟨cs, b2, q2, z2, k2⟩ := DqAll.rk I h2 r2 hw'.2 (fun t ht => hz t (by simp only [PyData.shownAll]; exact List.mem_cons_of_mem _ ht))
      refine ⟨_, b1 ++ b2, ReadsAll.cons q1 q2, ?_, ?_⟩
      · simp only [PyData.depthAll]
        exact (z1.mono (Nat.le_max_left _ _)).append (z2.mono (Nat.le_max_right _ _))
      · simp only [PyData.depthAll, PyData.shownAll]
        exact .cons ((k1.more fun b hb => List.mem_append_left _ hb).level_le (Nat.le_max_left _ _)) (k2.more_le (fun b hb => List.mem_append_right _ hb) (Nat.le_max_right _ _))
end
end

/-! ### repr of data -/
/-- what is asked of data that is shown: its ints are no giants, its text is not too long, it is not too deep -/
def Shw (d : PyData) : Prop := d.showable = true ∧ d.shown.length ≤ sizeLine ∧ d.depth ≤ 60
def rRepr : List V → Hp → VK → Prop := fun xs H Q => ∃ x d, xs = [x] ∧ Dq H x d ∧ Shw d ∧ Q (.str d.shown) H
section
variable {X : Cx}
theorem call_repr (hgd : X.A.guards = some []) (hu : X.A.units + 64 < cLine) : CallR X (.builtin "repr") rRepr := by
  intro pins s σ H xs us Q I r h
  obtain ⟨x, d, rfl, hd, ⟨hs, hz, hdp⟩, q⟩ := h
  obtain ⟨u, rfl, rx⟩ := vals1 r
  have fin : ∀ (h' : Heap) (u : Tok) (tk : Nat), (∀ b o, s.heap.get? b = some o → h'.get? b = some o) → EP X pins σ Q (.str d.shown u) { s with heap := h', toks := tk } :=
    fun h' u tk hk => ⟨.str d.shown, H, I.kept hk, ⟨_, rfl⟩, q⟩
  cases hd with
  | non => cases rx; exact PySem.P.repr_of_none (by simpa [PyData.shown] using fin s.heap _ _ fun _ _ e => e)
  | bl b => cases rx; exact PySem.P.repr_of_bool (by simpa [PyData.shown] using fin s.heap _ _ fun _ _ e => e)
  | int i => obtain ⟨t, rfl⟩ := rx; exact PySem.P.repr_of_int (by simpa [PyData.showable] using hs) (by simpa [PyData.shown] using fin s.heap _ _ fun _ _ e => e)
  | str y => obtain ⟨t, rfl⟩ := rx; exact PySem.P.repr_of_str (by simpa [PyData.shown] using fin s.heap _ _ fun _ _ e => e) (by simpa [PyData.shown] using hz)
  | lst h1 h2 =>
    rename_i a xs ds
    cases rx
    have hz' : (listText (PyData.shownAll ds)).length ≤ sizeLine := by simpa only [PyData.shown] using hz
    obtain ⟨its, rv, ⟨o, n, ho, hc, _, hd⟩, _⟩ := I.list (X := X) (Or.inl h1)
    obtain ⟨as, bs, hr, hb, hk⟩ := DqAll.rk I h2 rv (by simpa [PyData.showable] using hs) (fun t ht => Nat.le_trans (listText_mem_le ht) hz')
    have hna : a ∉ bs := not_mem_of_deeper (.list ho hc hd (by simpa using hr)) (by simp only [PyData.depth]; omega) hb
    simp only [PyData.depth] at hdp
    simp only [PyData.shown] at fin
    refine call_repr_slot (by omega) ⟨o, ho, hc⟩ F.slot_list_repr.toG ?_
    cases its with
    | nil =>
      cases hr
      simp only [PyData.shownAll, listText_nil] at fin
      exact call_list_repr_empty ⟨o, ho, hc⟩ ho hd ⟨_, _, rfl, fin s.heap _ _ fun _ _ e => e⟩
    | cons x l =>
      exact call_list_reprK ho hc hd hna (by simpa using hk.length_eq) (fun i y e => hk.item i y (by simpa using e)) hgd (fun b _ => Clear.nil b) (by show X.A.units + 1 + _ < cLine; omega) (fun _ _ e => e)
        (fun h' u tk hk => ⟨_, _, rfl, fin h' u tk hk⟩) hz'
  | tup h1 h2 =>
    rename_i a xs ds
    cases rx
    have hz' : (tupleText (PyData.shownAll ds)).length ≤ sizeLine := by simpa only [PyData.shown] using hz
    obtain ⟨its, rv, ⟨o, ho, hc, n, hd⟩, _⟩ := I.tuple (X := X) (Or.inl h1)
    obtain ⟨as, bs, hr, hb, hk⟩ := DqAll.rk I h2 rv (by simpa [PyData.showable] using hs) (fun t ht => Nat.le_trans (tupleText_mem_le ht) hz')
    have hna : a ∉ bs := not_mem_of_deeper (.tuple ho hc hd (by simpa using hr)) (by simp only [PyData.depth]; omega) hb
    simp only [PyData.depth] at hdp
    simp only [PyData.shown] at fin
    exact call_repr_slot (by omega) ⟨o, ho, hc⟩ F.slot_tuple_repr
      (call_tuple_reprK ho hc hd hna (by simpa using hk) hgd (fun b _ => Clear.nil b) (by show X.A.units + 1 + _ < cLine; omega) (fun _ _ e => e) (fun h' u tk hk => ⟨_, _, rfl, fin h' u tk hk⟩) hz')
  | dic h1 =>
    cases rx
    obtain ⟨o, n, ho, hc, hd, hsys⟩ := dic_at I h1
    simp only [PyData.shown, PyData.shownKv] at fin hz
    exact call_repr_slot (by omega) ⟨o, ho, hc⟩ F.slot_dict_repr
      (call_dict_reprK (as := []) (d := 0) ho hc hd hsys (by simp) .nil hgd (fun b _ => Clear.nil b) (by show X.A.units + 1 + _ < cLine; omega) (fun _ _ e => e) (fun h' u tk hk => ⟨_, _, rfl, fin h' u tk hk⟩) hz)
end
end HX

set_option Elab.async false
set_option linter.all false
set_option maxRecDepth 100000
namespace HX
open PySem PySem.Spec PyProof.Rows L2

/-! ### the end of a law whose def is an FnG -/
section
variable {P : Program} {w : World} {K : PySem.W.Frag} {mg mb : Str → Option Value} {k : Nat} {fa a : Addr} {fd : FuncData} {x : Str} {sp : Sp} {s₁ : Shared} {vs : List Value} {ns : List Int}
/-- what is wanted of the law's call -/
def LawEnd (s₁ : Shared) : Result → Shared → Prop := fun r s' => r = .ok (.ret (.bool true)) ∧ OldK s₁.heap s'.heap ∧ s'.os = s₁.os ∧ AllBare s'.gens
/-- the tracked heap at the start: the script, or nothing -/
theorem law_from (KX : K.In s₁.heap) (hns : s₁.heap.Ns mainGlobals mg) (hb : s₁.heap.Ns builtinsNs mb) (hbb : ∀ x : Str, x ≠ "__name__" → mb x = bootBuiltins x) (hlim : s₁.heap.NoLimit) (hg : s₁.gens = #[])
    (hr : Room k callerA) (FF : ∀ base : Heap, K.In base → base.Ns mainGlobals mg → FnG P w K mg base CX0 k fa fd [x] sp) (hbind : ∀ (s : Shared) (u : Value), BindsTo s fd ⟨[u], []⟩ [(x, u)])
    (hsp : ∀ H : Hp, Only H → SqL K H a (ns.map V.int) → sp [.ref a] H (fun v _ => v = .bl true) fun _ _ _ => False)
    (H : Hp) (hO : Only H) (hS : SqL K H a (ns.map V.int)) (hok : HOk P w H s₁.heap) (hn : ∀ b o, s₁.heap.get? b = some o → H b ≠ none → o.cls = .type "list" ∧ ∃ its n, o.data = .seq its n) (hK : ∀ b o, K.lookup b = some o → H b = none) :
    codeAny (model P w) callerA (.call (.ref fa) ⟨[.ref a], []⟩) (LawEnd s₁) s₁ := by
  have up : ∀ {b : Addr} {m : Str → Option Value}, s₁.heap.Ns b m → (hidT s₁.heap H).Ns b m := by
    rintro b m ⟨o, es, ep, e, d, r⟩
    have hb0 : H b = none := by
      cases q : H b with
      | none => rfl
      | some u =>
        obtain ⟨_, its, n, z⟩ := hn b o e (by rw [q]; simp)
        rw [d] at z; cases z
    exact ⟨o, es, ep, hidT_get e hb0, d, r⟩
  have hKb : K.In (hidT s₁.heap H) := fun b o e => hidT_get (KX b o e) (hK b o e)
  obtain ⟨mc, l1, l2⟩ := hlim
  have hM : Mod K mg (hidT s₁.heap H) := ⟨hKb, up hns, ⟨mb, up hb, hbb⟩, mc, up l1, l2⟩
  have e0 : Env0 P w K mg (hidT s₁.heap H) callerA [] s₁ H :=
    { frames := rfl, mod := hM, bs := fun b o e => of_hidT e, bsz := Nat.le_of_eq (hidT_size _ _), funs := trivial, frf := fun b z => absurd (show b ∈ ([] : List Addr) from z) (by simp), hok := hok, bare := .of_eq hg }
  refine codeAny_mono ((FF _ hKb (up hns)).run callerA [] s₁ H ⟨[.ref a], []⟩ [.ref a] [.ref a] _ _ rfl hr e0 (hbind s₁ (.ref a)) (.cons rfl .nil) (hsp H hO hS)) ?_
  intro r s' h
  match r, h with
  | .error e, h => exact h.elim
  | .ok (.ret u), ⟨v, H', os, bare, un, hok', r', q⟩ =>
    have q' : v = .bl true := q
    subst q'
    cases (show u = Value.bool true from r')
    refine ⟨rfl, OldK.of_keep fun b o e => ?_, os, bare⟩
    rcases hO b with z | ⟨ob, xs, z⟩
    · exact un.keep b o e z (fun m => absurd (show b ∈ ([] : List Addr) from m) (by simp)) (by simp)
    · obtain ⟨e1, _⟩ := hok b _ z
      obtain ⟨e2, _⟩ := hok' b _ (un.frzs b ob _ z)
      rw [e] at e1; cases e1
      exact e2
theorem law_callG (KX : K.In s₁.heap) (hns : s₁.heap.Ns mainGlobals mg) (hb : s₁.heap.Ns builtinsNs mb) (hbb : ∀ x : Str, x ≠ "__name__" → mb x = bootBuiltins x) (hlim : s₁.heap.NoLimit) (hg : s₁.gens = #[])
    (ha : s₁.heap.get? a = some { cls := .type "list", data := .seq vs.toArray }) (hi : IntsAre vs ns) (hl : ns.length ≤ sizeLine)
    (hr : Room k callerA) (FF : ∀ base : Heap, K.In base → base.Ns mainGlobals mg → FnG P w K mg base CX0 k fa fd [x] sp) (hbind : ∀ (s : Shared) (u : Value), BindsTo s fd ⟨[u], []⟩ [(x, u)])
    (hsp : ∀ H : Hp, Only H → SqL K H a (ns.map V.int) → sp [.ref a] H (fun v _ => v = .bl true) fun _ _ _ => False) :
    codeAny (model P w) callerA (.call (.ref fa) ⟨[.ref a], []⟩) (LawEnd s₁) s₁ := by
  have rv := vals_ints hi
  have lenV := hi.length
  cases hk : K.lookup a with
  | some o =>
    have e := KX a o hk
    rw [ha] at e
    cases e
    have hS : SqL K (fun _ => none) a (ns.map V.int) := .inr ⟨_, vs.toArray, _, hk, rfl, rfl, rfl, by rw [List.size_toArray, lenV]; exact hl, by simpa using rv⟩
    exact law_from KX hns hb hbb hlim hg hr FF hbind hsp (fun _ => none) (fun _ => .inl rfl) hS (fun b u z => nomatch z) (fun b o _ z => absurd rfl z) (fun _ _ _ => rfl)
  | none =>
    let H : Hp := fun b => if b = a then some (.frz { cls := .type "list", data := .seq vs.toArray } (.lst (ns.map V.int))) else none
    have Ha : H a = some (.frz { cls := .type "list", data := .seq vs.toArray } (.lst (ns.map V.int))) := if_pos rfl
    have Hn : ∀ b, b ≠ a → H b = none := fun b z => if_neg z
    refine law_from KX hns hb hbb hlim hg hr FF hbind hsp H (fun b => ?_) (.inl (.inr ⟨_, Ha⟩)) (fun b u z => ?_) (fun b o e z => ?_) (fun b o e => ?_)
    · by_cases hb : b = a
      · subst hb; exact .inr ⟨_, _, Ha⟩
      · exact .inl (Hn b hb)
    · by_cases hb : b = a
      · subst hb
        rw [Ha] at z
        cases z
        exact ⟨ha, by rw [List.length_map]; exact hl, vs, _, rv, ha⟩
      · rw [Hn b hb] at z
        cases z
    · by_cases hb : b = a
      · subst hb
        rw [ha] at e
        cases e
        exact ⟨rfl, _, _, rfl⟩
      · exact absurd (Hn b hb) z
    · refine Hn b fun z => ?_
      subst z
      rw [hk] at e
      cases e
end
/-- as walk_ofK of the layer, for an FnG -/
theorem walk_G {l : PySem.W.OpenLaw} {n k : Nat} {q : Program} {loose : List Str} {XP : (Str → Option Value) → Heap → Prop} {YP : World → Heap → Prop} {d : DefRec} {K : Params → PySem.W.Frag} {sp : PySem.W.Frag → Sp} {x : Str}
    (hn : l.most = some n) (hn2 : n ≤ sizeLine) (hdf : d.params.defaults = []) (hr : Room k callerA) (hY : ∀ (w : World) (h : Heap), YP w h → (K w.params).In h)
    (FF : ∀ (w : World) (mg : Str → Option Value) (fa : Addr) (h : Heap), (K w.params).In h → h.Ns mainGlobals mg → mg d.name = some (.ref fa) →
      ∃ fd : FuncData, (∀ (s : Shared) (u : Value), BindsTo s fd ⟨[u], []⟩ [(x, u)]) ∧ ∀ base : Heap, (K w.params).In base → base.Ns mainGlobals mg → FnG l.prog w (K w.params) mg base CX0 k fa fd [x] (sp (K w.params)))
    (hsp : ∀ (K : PySem.W.Frag) (H : Hp) (a : Addr) (ns : List Int), ns.length ≤ n → Only H → SqL K H a (ns.map V.int) → sp K [.ref a] H (fun v _ => v = .bl true) fun _ _ _ => False) :
    PySem.W.WalkO q loose XP YP l.row.toRowW d [] (fun f vs => PySem.call f vs) := by
  refine Att.attach_call hn hdf fun w s₀ s₁ mg mb fa o pm cd doc a vs ns G Y ho hd hcd hmg hobj hints hlen hg => ?_
  obtain ⟨fd, hb, hF⟩ := FF w mg fa _ (hY w _ Y) G.T.g hmg
  exact law_callG (hY w _ Y) G.T.g G.T.b G.T.builtins G.T.nolimit hg hobj hints (Nat.le_trans hlen hn2) hr hF hb (fun H hO hS => hsp _ H a ns hlen hO hS)
end HX

set_option Elab.async false
set_option linter.all false
set_option maxRecDepth 100000
namespace HX
open PySem PySem.Spec PyProof.Rows L2
open Evl (Ex)

/-! ### a def of the module, called by its name -/
def Has (P : Program) (w : World) (K : PySem.W.Frag) (mg : Str → Option Value) (base : Heap) (k : Nat) (x : Str) (sp : Sp) : Prop :=
  ∃ (f : Addr) (fd : FuncData) (ps : List Str), FnOk P w K mg base CX0 k f fd ps sp ∧ mg x = some (.ref f) ∧ PySem.W.keepIn K (.ref f) = true ∧ Binds K fd ps []
def HasG (P : Program) (w : World) (K : PySem.W.Frag) (mg : Str → Option Value) (base : Heap) (k : Nat) (x : Str) (sp : Sp) : Prop :=
  ∃ (f : Addr) (fd : FuncData) (ps : List Str), FnG P w K mg base CX0 k f fd ps sp ∧ mg x = some (.ref f) ∧ PySem.W.keepIn K (.ref f) = true ∧ Binds K fd ps []
section
variable {X : Cx} {k n : Nat} {sp : Sp} {x : Str} {p pos : Pos} {e : Expr} {es : List Expr} {t : TA}
theorem pe_hs (h : Has X.prog X.w X.K X.mg X.base k x sp) (hr : Room n X.A) (hg : Gl X x) (ha : PA X (e :: es) t) (hkn : k ≤ n := by decide) (hdb : (x == ("__debug__" : Str)) = false := by decide)
    (he : starEach (e :: es) X.env = (false, eval e X.env) :: starEach es X.env := by rfl) (hpl : (backTo pos (starEach es X.env)).any (·.1) = false := by rfl) :
    PE X (.Call (.Name x p) (e :: es) [] pos) (tCall sp [] E0 t) := by
  obtain ⟨f, fd, ps, F, hm, hk, hb⟩ := h
  exact pe_call F (hr.mono hkn) hg hm hk hb .nil pass0 ha hdb he hpl
theorem pe_hsG (h : HasG X.prog X.w X.K X.mg X.base k x sp) (hgd : X.A.guards = some []) (hr : Room n X.A) (hg : Gl X x) (ha : PA X (e :: es) t) (hkn : k ≤ n := by decide) (hdb : (x == ("__debug__" : Str)) = false := by decide)
    (he : starEach (e :: es) X.env = (false, eval e X.env) :: starEach es X.env := by rfl) (hpl : (backTo pos (starEach es X.env)).any (·.1) = false := by rfl) :
    PE X (.Call (.Name x p) (e :: es) [] pos) (tCall sp [] E0 t) := by
  obtain ⟨f, fd, ps, F, hm, hk, hb⟩ := h
  exact pe_callG F hgd (hr.mono hkn) hg hm hk hb .nil pass0 ha hdb he hpl
end

/-! ### objects that turn (a jar, a list that grows), all else stands -/
def hid (S : List Addr) (H : Hp) : Hp := fun b => if b ∈ S then none else H b
theorem hid_ne {S : List Addr} {b : Addr} {H : Hp} (h : b ∉ S) : hid S H b = H b := if_neg h
theorem hid_upd {S : List Addr} {j : Addr} {H : Hp} {o : HO} (hj : j ∈ S) : hid S (upd H j o) = hid S H := by
  funext b
  unfold hid
  by_cases h : b ∈ S
  · rw [if_pos h, if_pos h]
  · rw [if_neg h, if_neg h, upd_ne (fun z => h (by rw [z]; exact hj))]
theorem hid_some {S : List Addr} {H : Hp} {b : Addr} {o : HO} (e : hid S H b = some o) : b ∉ S ∧ H b = some o := by
  unfold hid at e
  by_cases h : b ∈ S
  · rw [if_pos h] at e; cases e
  · rw [if_neg h] at e; exact ⟨h, e⟩
theorem hid_ex {S : List Addr} {H : Hp} : Ex (hid S H) H := fun b o e => (hid_some e).2
theorem hid_sub {S T : List Addr} {H : Hp} (h : ∀ b, b ∈ T → b ∈ S) : Ex (hid S H) (hid T H) := fun b o e => by
  obtain ⟨h1, h2⟩ := hid_some e
  rw [hid_ne fun z => h1 (h b z)]
  exact h2
theorem hid_free {S : List Addr} {p : Addr} {H : Hp} (h : H p = none) : hid S H p = none := by
  unfold hid
  split
  · rfl
  · exact h
/-- a step that may turn the objects of S and lays new ones -/
abbrev Jx (S : List Addr) (H H' : Hp) : Prop := Ex (hid S H) (hid S H')
theorem Jx.of {S : List Addr} {H H' : Hp} (e : Ex H H') : Jx S H H' := fun b o q => by
  obtain ⟨h1, h2⟩ := hid_some q
  rw [hid_ne h1]
  exact e b o h2
theorem Jx.upd {S : List Addr} {j : Addr} {H : Hp} {o : HO} (hj : j ∈ S) : Jx S H (upd H j o) := by
  show Ex (hid S H) (hid S (L2.upd H j o))
  rw [hid_upd hj]
  exact Ex.refl _
theorem Jx.refl {S : List Addr} (H : Hp) : Jx S H H := Ex.refl _
theorem Jx.tr {S : List Addr} {H H1 H2 : Hp} (a : Jx S H H1) (b : Jx S H1 H2) : Jx S H H2 := Ex.trans a b
theorem Jx.new {S : List Addr} {p : Addr} {H : Hp} {o : HO} (h : H p = none) : Jx S H (L2.upd H p o) := Jx.of (Ex.new h)
/-- hiding more -/
theorem Jx.more {S T : List Addr} {H H' : Hp} (e : Jx S H H') (h : ∀ b, b ∈ S → b ∈ T) : Jx T H H' := fun b o q => by
  obtain ⟨h1, h2⟩ := hid_some q
  have := e b o (by rw [hid_ne fun z => h1 (h b z)]; exact h2)
  rw [hid_ne h1]
  exact (hid_some this).2
/-- what was not there need not be hidden -/
theorem Jx.less {S : List Addr} {l : Addr} {H H' : Hp} (e : Jx (l :: S) H H') (h : H l = none) : Jx S H H' := fun b o q => by
  obtain ⟨h1, h2⟩ := hid_some q
  have hb : b ∉ l :: S := fun z => by
    rcases List.mem_cons.mp z with rfl | z
    · rw [h] at h2; cases h2
    · exact h1 z
  have := e b o (by rw [hid_ne hb]; exact h2)
  rw [hid_ne h1]
  exact (hid_some this).2
theorem Jx.get {S : List Addr} {p : Addr} {H H' : Hp} {o : HO} (e : Jx S H H') (h : H p = some o) (hp : p ∉ S) : H' p = some o :=
  (hid_some (e p o (by rw [hid_ne hp]; exact h))).2
theorem Jx.dq {S : List Addr} {H H' : Hp} {v : V} {d : PyData} (e : Jx S H H') (h : Dq (hid S H) v d) : Dq (hid S H') v d := h.ex e
theorem Jx.dqa {S : List Addr} {H H' : Hp} {v : List V} {d : List PyData} (e : Jx S H H') (h : DqAll (hid S H) v d) : DqAll (hid S H') v d := h.ex e
theorem fresh_ne {H : Hp} {p q : Addr} {o : HO} (h : H q = some o) (hp : H p = none) : p ≠ q := fun z => by rw [z, h] at hp; cases hp
theorem nin1 {p j : Addr} (h : p ≠ j) : p ∉ [j] := by simp [h]
theorem nin2 {p l j : Addr} (h1 : p ≠ l) (h2 : p ≠ j) : p ∉ [l, j] := by simp [h1, h2]

end HX

namespace HX
open PySem PySem.Spec PyProof.Rows L2
open Evl (Ex)
/-! ### pieces of readings, to be applied one by one -/
section
variable {K : PySem.W.Frag} {H : Hp} {Q : VK} {j : Addr} {xs : List V} {i : Int} {v : V} {σ : L2.St}
theorem go_ixL (hj : Rd H j (.lst xs)) (hi : atI xs i = some v) (q : Q v H) : rIxL K (.ref j) (.int i) H Q := ⟨j, xs, i, v, rfl, rfl, .inl hj, hi, q⟩
theorem go_ixT (hj : Rd H j (.tup xs)) (hi : atI xs i = some v) (q : Q v H) : rIxT K (.ref j) (.int i) H Q := ⟨j, xs, i, v, rfl, rfl, .inl hj, hi, q⟩
theorem go_ixL' (hj : SqL K H j xs) (hi : atI xs i = some v) (q : Q v H) : rIxL K (.ref j) (.int i) H Q := ⟨j, xs, i, v, rfl, rfl, hj, hi, q⟩
theorem go_ixT' (hj : SqT K H j xs) (hi : atI xs i = some v) (q : Q v H) : rIxT K (.ref j) (.int i) H Q := ⟨j, xs, i, v, rfl, rfl, hj, hi, q⟩
theorem go_setL {n : Nat} {q : Hp → Prop} (hj : H j = some (.lst xs)) (hi : ixN xs.length i = some n) (k : q (upd H j (.lst (xs.set n v)))) : rSetL (.ref j) (.int i) v H q := ⟨j, xs, i, n, rfl, rfl, hj, hi, k⟩
/-- a value is handed on, told by what holds of it -/
theorem cut_e {te : TE} (R : V → Hp → Prop) (h : ∀ Q' : VK, (∀ v H', R v H' → Q' v H') → te σ H Q') (k : ∀ v H', R v H' → Q v H') : te σ H Q := h Q k
/-- a statement, then the rest -/
theorem cut_s {t u : TS} {D : Ends} (M : L2.St → Hp → Prop) (h : ∀ D' : Ends, D'.rt = D.rt → D'.bk = D.bk → D'.ct = D.ct → (∀ σ' H', M σ' H' → D'.nx σ' H') → t D' σ H) (k : ∀ σ' H', M σ' H' → u D σ' H') : tSeq t u D σ H :=
  h { D with nx := u D } rfl rfl rfl k
end
end HX

set_option Elab.async false
set_option linter.all false
set_option maxRecDepth 100000
namespace HX
open PySem PySem.Spec PyProof.Rows L2
open Evl (Ex)
/-! ### the connectives of readings, opened one by one -/
section
variable {K : PySem.W.Frag} {H : Hp} {Q : VK} {QA : List V → Hp → Prop} {QT : Bool → Hp → Prop} {QS : L2.St → Hp → Prop} {v x y : V} {σ : L2.St} {ta tb te tc : TE} {t u : TT} {tr : TA} {D : Ends} {t1 t2 : TS} {g : TG} {i j : Nat} {r r' : R2} {a b : Int} {c : Bool}
theorem go_var (h : σ[i]? = some (some v)) (q : Q v H) : tVar i σ H Q := ⟨v, h, q⟩
theorem go_c (q : Q v H) : tC v σ H Q := q
theorem go_op (h : ta σ H fun x H1 => tb σ H1 fun y H2 => r x y H2 Q) : tOp r ta tb σ H Q := h
theorem go_un {r : V → Hp → VK → Prop} (h : ta σ H fun x H1 => r x H1 Q) : tUn r ta σ H Q := h
theorem go_if (h : t σ H fun c H1 => if c = true then ta σ H1 Q else tb σ H1 Q) : tIf t ta tb σ H Q := h
theorem go_test (h : te σ H fun x H' => ∃ k, x = .bl k ∧ QT k H') : tTest te σ H QT := h
theorem go_B (h : te σ H fun x H1 => ∃ c, x = .bl c ∧ QT c H1) : tB te σ H QT := h
theorem go_bl (q : QT c H) : ∃ k, V.bl c = V.bl k ∧ QT k H := ⟨c, rfl, q⟩
theorem go_not (h : t σ H fun c H1 => QT (!c) H1) : tNot t σ H QT := h
theorem go_and (h : t σ H fun c H1 => if c = true then u σ H1 QT else QT false H1) : tAnd t u σ H QT := h
theorem go_or (h : t σ H fun c H1 => if c = true then QT true H1 else u σ H1 QT) : tOr t u σ H QT := h
theorem go_andV (h : ta σ H fun x H1 => ∃ c, x = .bl c ∧ if c = true then tb σ H1 Q else Q (.bl false) H1) : tAndV ta tb σ H Q := h
theorem go_orV (h : ta σ H fun x H1 => ∃ c, x = .bl c ∧ if c = true then Q (.bl true) H1 else tb σ H1 Q) : tOrV ta tb σ H Q := h
theorem go_notV (h : ta σ H fun x H1 => ∃ c, x = .bl c ∧ Q (.bl (!c)) H1) : tNotV ta σ H Q := h
theorem go_chain (h : ta σ H fun x H1 => tb σ H1 fun y H2 => r x y H2 fun z H3 => ∃ k, z = .bl k ∧ (if k = true then tc σ H3 fun w' H4 => r' y w' H4 Q else Q (.bl false) H3)) : tChain r r' ta tb tc σ H Q := h
theorem go_nil (q : QA [] H) : tNil σ H QA := q
theorem go_cons (h : ta σ H fun x H1 => tr σ H1 fun xs H2 => QA (x :: xs) H2) : tCons ta tr σ H QA := h
theorem go_cb {rc : List V → Hp → VK → Prop} (h : tr σ H fun vs H1 => rc vs H1 Q) : tCB rc tr σ H Q := h
theorem go_call {sp : Sp} {dvs : List V} {E : XK} (h : tr σ H fun vs H1 => sp (vs ++ dvs) H1 Q E) : tCall sp dvs E tr σ H Q := h
theorem go_tup (h : tr σ H fun xs H1 => xs.length ≤ sizeLine ∧ ∀ p, H1 p = none → Q (.ref p) (upd H1 p (.tup xs))) : tTup tr σ H Q := h
theorem go_lst (h : tr σ H fun xs H1 => xs.length ≤ sizeLine ∧ ∀ p, H1 p = none → Q (.ref p) (upd H1 p (.lst xs))) : tLst tr σ H Q := h
theorem go_asg (h : te σ H fun x H1 => g x σ H1 D.nx) : tAsg te g D σ H := h
theorem go_name (h : QS (σ.set i (some v)) H) : gName i v σ H QS := h
theorem go_sub {to ti : TE} {ts : TSet} (h : to σ H fun o H1 => ti σ H1 fun i H2 => ts o i v H2 fun H3 => QS σ H3) : gSub to ti ts v σ H QS := h
theorem go_seq (h : t1 { D with nx := t2 D } σ H) : tSeq t1 t2 D σ H := h
theorem go_ret (h : te σ H D.rt) : tRet te D σ H := h
theorem go_retN (h : D.rt .non H) : tRetN D σ H := h
theorem go_drop (h : te σ H fun _ H1 => D.nx σ H1) : tDrop te D σ H := h
theorem go_next (h : D.nx σ H) : tNext D σ H := h
theorem go_brk (h : D.bk σ H) : tBreak D σ H := h
theorem go_cont (h : D.ct σ H) : tCont D σ H := h
theorem go_ifS (h : t σ H fun b H1 => if b = true then t1 D σ H1 else t2 D σ H1) : tIfS t t1 t2 D σ H := h
theorem go_par (h : tr σ H fun vs H1 => ∃ v w, vs = [v, w] ∧ D.nx ((σ.set i (some v)).set j (some w)) H1) : tPar i j tr D σ H := h
theorem go_par2 {P : V → V → Prop} (h : P x y) : ∃ v w, [x, y] = [v, w] ∧ P v w := ⟨x, y, rfl, h⟩
theorem go_bm {T : String} {rb : V → List V → Hp → VK → Prop} (h : ta σ H fun x H1 => tyV K T x H1 ∧ tr σ H1 fun xs H2 => rb x xs H2 Q) : tBM K T rb ta tr σ H Q := h
theorem go_I0 {f : Int → Int → V} (q : Q (f a b) H) : rI0 f (.int a) (.int b) H Q := ⟨a, b, rfl, rfl, q⟩
theorem go_I {C : Int → Int → Prop} {f : Int → Int → V} (hc : C a b) (q : Q (f a b) H) : rI C f (.int a) (.int b) H Q := ⟨a, b, rfl, rfl, hc, q⟩
theorem go_U {f : Int → V} (q : Q (f a) H) : rU f (.int a) H Q := ⟨a, rfl, q⟩
theorem go_eq (h : scal x y = true) (q : Q (.bl (decide (x = y))) H) : rEq x y H Q := ⟨h, q⟩
theorem go_ne (h : scal x y = true) (q : Q (.bl (!decide (x = y))) H) : rNe x y H Q := ⟨h, q⟩
theorem go_isN (q : Q (.bl (decide (x = .non))) H) : rIsN x .non H Q := ⟨rfl, q⟩
theorem go_notN (q : Q (.bl (!decide (x = .non))) H) : rNotN x .non H Q := ⟨rfl, q⟩
theorem go_app {l : Addr} {xs : List V} (h : H l = some (.lst xs)) (hz : xs.length < sizeLine) (q : Q .non (upd H l (.lst (xs ++ [y])))) : rAppend (.ref l) [y] H Q := ⟨l, xs, y, rfl, rfl, h, hz, q⟩
theorem go_tyL {l : Addr} {xs : List V} (h : H l = some (.lst xs)) {P : Prop} (q : P) : tyV K "list" (.ref l) H ∧ P := ⟨.inl ⟨rfl, _, SqL.of h⟩, q⟩
theorem go_cat {l m : Addr} {xs zs : List V} (h1 : H l = some (.lst xs)) (h2 : H m = some (.lst zs)) (hz : xs.length + zs.length ≤ sizeLine) (q : ∀ p, H p = none → Q (.ref p) (upd H p (.lst (xs ++ zs)))) : rCat (.ref l) (.ref m) H Q :=
  ⟨l, m, xs, zs, rfl, rfl, h1, h2, hz, q⟩
theorem go_rep {l : Addr} {xs : List V} {k : Int} (h1 : H l = some (.lst xs)) (h2 : -(2 ^ 63) ≤ k ∧ k < 2 ^ 63) (hz : xs.length * k.toNat ≤ sizeLine) (q : ∀ p, H p = none → Q (.ref p) (upd H p (.lst (List.replicate k.toNat xs).flatten))) : rRep (.ref l) (.int k) H Q :=
  ⟨l, k, xs, rfl, rfl, h1, h2.1, h2.2, hz, q⟩
end
/-! ### built-ins by name -/
def rLenQ (K : PySem.W.Frag) : List V → Hp → VK → Prop := fun xs H Q => ∃ p ys, xs = [.ref p] ∧ (SqL K H p ys ∨ SqT K H p ys) ∧ Q (.int ys.length) H
def rAbsQ : List V → Hp → VK → Prop := fun xs H Q => ∃ i, xs = [.int i] ∧ Q (.int (if i < 0 then -i else i)) H
def rMaxQ : List V → Hp → VK → Prop := fun xs H Q => ∃ i j, xs = [.int i, .int j] ∧ Q (.int (if j > i then j else i)) H
def rMinQ : List V → Hp → VK → Prop := fun xs H Q => ∃ i j, xs = [.int i, .int j] ∧ Q (.int (if j < i then j else i)) H
def rIntQ : List V → Hp → VK → Prop := fun xs H Q => (∃ i, xs = [.int i] ∧ Q (.int i) H) ∨ ∃ k, xs = [.bl k] ∧ Q (.int (if k then 1 else 0)) H
section
variable {X : Cx}
theorem call_lenQ : CallR X (.builtin "len") (rLenQ X.K) := call_len_seq
theorem call_absQ : CallR X (.builtin "abs") rAbsQ := call_abs
theorem call_maxQ (hc : X.calm = true) : CallR X (.builtin "max") rMaxQ := call_max2 hc
theorem call_minQ (hc : X.calm = true) : CallR X (.builtin "min") rMinQ := call_min2 hc
theorem call_intQ : CallR X (.type "int") rIntQ := call_int1
end
section
variable {K : PySem.W.Frag} {H : Hp} {Q : VK} {p : Addr} {ys : List V} {i j : Int} {b : Bool}
theorem go_lenL (h : Rd H p (.lst ys)) (k : Q (.int ys.length) H) : rLenQ K [.ref p] H Q := ⟨p, ys, rfl, .inl (.inl h), k⟩
theorem go_lenT (h : Rd H p (.tup ys)) (k : Q (.int ys.length) H) : rLenQ K [.ref p] H Q := ⟨p, ys, rfl, .inr (.inl h), k⟩
theorem go_lenS (h : SqL K H p ys) (k : Q (.int ys.length) H) : rLenQ K [.ref p] H Q := ⟨p, ys, rfl, .inl h, k⟩
theorem go_abs (k : Q (.int (if i < 0 then -i else i)) H) : rAbsQ [.int i] H Q := ⟨i, rfl, k⟩
theorem go_max (k : Q (.int (if j > i then j else i)) H) : rMaxQ [.int i, .int j] H Q := ⟨i, j, rfl, k⟩
theorem go_min (k : Q (.int (if j < i then j else i)) H) : rMinQ [.int i, .int j] H Q := ⟨i, j, rfl, k⟩
theorem go_int (k : Q (.int i) H) : rIntQ [.int i] H Q := .inl ⟨i, rfl, k⟩
theorem go_intB (k : Q (.int (if b then 1 else 0)) H) : rIntQ [.bl b] H Q := .inr ⟨b, rfl, k⟩
end
/-- a slot is read -/
theorem wide1 {b : Int} (h0 : 0 < b) (h : b < 2 ^ 400) {a : Int} : CDivW a b := wide_div (b := 400) h0 (by omega) (by decide) (by decide)
end HX
namespace HX
open PySem L2
theorem go_new {n : Nat} {R : Prop} (h : n ≤ sizeLine) (k : R) : n ≤ sizeLine ∧ R := ⟨h, k⟩
end HX
namespace HX
open PySem PySem.Spec PyProof.Rows L2
open Evl (Ex)
/-! ### loops -/
section
variable {K : PySem.W.Frag} {H : Hp} {Q : VK} {σ : L2.St} {ta : TA} {tl te : TE} {tt : TT} {D : Ends} {tb : TS} {g : TG} {lo : Int} {n : Nat} {a : Addr} {xs : List V} {vs : List Nat}
def forR (lo : Int) (n : Nat) (g : TG) (tb : TS) : TS := tFor (fun _ H R => R (Itr lo n) H) g tb
def forL (K : PySem.W.Frag) (a : Addr) (g : TG) (tb : TS) : TS := tFor (fun _ H R => R (Itl K a) H) g tb
def forT (K : PySem.W.Frag) (a : Addr) (g : TG) (tb : TS) : TS := tFor (fun _ H R => R (Itt K a) H) g tb
def forE (K : PySem.W.Frag) (a : Addr) (g : TG) (tb : TS) : TS := tFor (fun _ H R => R (Ite K a) H) g tb
theorem go_forR1 (h : ta σ H fun vs H1 => ∃ j : Int, vs = [.int j] ∧ -(2 ^ 62) ≤ j ∧ j < 2 ^ 62 ∧ forR 0 j.toNat g tb D σ H1) : tFor (iRng1 ta) g tb D σ H := h
theorem go_forR2 (h : ta σ H fun vs H1 => ∃ i j : Int, vs = [.int i, .int j] ∧ (-(2 ^ 62) ≤ i ∧ i < 2 ^ 62 ∧ -(2 ^ 62) ≤ j ∧ j < 2 ^ 62) ∧ forR i (j - i).toNat g tb D σ H1) : tFor (iRng2 ta) g tb D σ H := h
theorem go_forL (h : tl σ H fun x H1 => ∃ a, x = .ref a ∧ (∃ xs, SqL K H1 a xs) ∧ forL K a g tb D σ H1) : tFor (iList K tl) g tb D σ H := h
theorem go_forT (h : tl σ H fun x H1 => ∃ a, x = .ref a ∧ (∃ xs, SqT K H1 a xs) ∧ forT K a g tb D σ H1) : tFor (iTup K tl) g tb D σ H := h
theorem go_forE (h : ta σ H fun vs H1 => ∃ a xs, vs = [.ref a] ∧ SqL K H1 a xs ∧ forE K a g tb D σ H1) : tFor (iEnum K ta) g tb D σ H := h
theorem run_forR (Pv : Nat → L2.St → Hp → Prop) (h0 : Pv 0 σ H)
    (hs : ∀ i σ H, i < n → Pv i σ H → g (.int (lo + i)) σ H fun σ2 H2 => tb { D with nx := Pv (i + 1), ct := Pv (i + 1), bk := D.nx } σ2 H2) (hd : ∀ σ H, Pv n σ H → D.nx σ H) : forR lo n g tb D σ H := for_range Pv h0 hs hd
theorem run_forL (xs : List V) (Pv : Nat → L2.St → Hp → Prop) (h0 : Pv 0 σ H) (hl : ∀ i σ H, i ≤ xs.length → Pv i σ H → SqL K H a xs)
    (hs : ∀ i x σ H, xs[i]? = some x → Pv i σ H → g x σ H fun σ2 H2 => tb { D with nx := Pv (i + 1), ct := Pv (i + 1), bk := D.nx } σ2 H2) (hd : ∀ σ H, Pv xs.length σ H → D.nx σ H) : forL K a g tb D σ H := for_list Pv h0 hl hs hd
theorem run_forT (xs : List V) (Pv : Nat → L2.St → Hp → Prop) (h0 : Pv 0 σ H) (hl : ∀ i σ H, i ≤ xs.length → Pv i σ H → SqT K H a xs)
    (hs : ∀ i x σ H, xs[i]? = some x → Pv i σ H → g x σ H fun σ2 H2 => tb { D with nx := Pv (i + 1), ct := Pv (i + 1), bk := D.nx } σ2 H2) (hd : ∀ σ H, Pv xs.length σ H → D.nx σ H) : forT K a g tb D σ H := for_tup Pv h0 hl hs hd
/-- comprehensions -/
def lcR (lo : Int) (n : Nat) (g : TG) (tt : TT) (te : TE) (vs : List Nat) : TE := tLc (fun _ H R => R (Itr lo n) H) g tt te vs
def lcL (K : PySem.W.Frag) (a : Addr) (g : TG) (tt : TT) (te : TE) (vs : List Nat) : TE := tLc (fun _ H R => R (Itl K a) H) g tt te vs
def lcT (K : PySem.W.Frag) (a : Addr) (g : TG) (tt : TT) (te : TE) (vs : List Nat) : TE := tLc (fun _ H R => R (Itt K a) H) g tt te vs
theorem go_lcR1 (h : ta σ H fun us H1 => ∃ j : Int, us = [.int j] ∧ -(2 ^ 62) ≤ j ∧ j < 2 ^ 62 ∧ lcR 0 j.toNat g tt te vs σ H1 Q) : tLc (iRng1 ta) g tt te vs σ H Q := h
theorem go_lcL (h : tl σ H fun x H1 => ∃ a, x = .ref a ∧ (∃ xs, SqL K H1 a xs) ∧ lcL K a g tt te vs σ H1 Q) : tLc (iList K tl) g tt te vs σ H Q := h
theorem go_lcT (h : tl σ H fun x H1 => ∃ a, x = .ref a ∧ (∃ xs, SqT K H1 a xs) ∧ lcT K a g tt te vs σ H1 Q) : tLc (iTup K tl) g tt te vs σ H Q := h
/-- acc at D so far: Pv i acc H; what a turn appends -/
theorem run_lcR (Pv : Addr → Nat → Hp → Prop) (h0 : ∀ D, H D = none → Pv D 0 (upd H D (.lst [])))
    (hs : ∀ D i H, i < n → Pv D i H → g (.int (lo + i)) (wipe σ vs) H fun σ2 H2 => wipe σ2 vs = wipe σ vs ∧ tt σ2 H2 fun b H3 =>
      if b = true then te σ2 H3 fun y H4 => ∃ acc, H4 D = some (.lst acc) ∧ acc.length < sizeLine ∧ Pv D (i + 1) (upd H4 D (.lst (acc ++ [y]))) else Pv D (i + 1) H3) (hd : ∀ D H', H D = none → Pv D n H' → Q (.ref D) H') : lcR lo n g tt te vs σ H Q :=
  fun D hD => lc_range (Pv D) (h0 D hD) (hs D) fun H' p => hd D H' hD p
theorem run_lcL (xs : List V) (Pv : Addr → Nat → Hp → Prop) (h0 : ∀ D, H D = none → Pv D 0 (upd H D (.lst []))) (hl : ∀ D i H, i ≤ xs.length → Pv D i H → SqL K H a xs)
    (hs : ∀ D i x H, xs[i]? = some x → Pv D i H → g x (wipe σ vs) H fun σ2 H2 => wipe σ2 vs = wipe σ vs ∧ tt σ2 H2 fun b H3 =>
      if b = true then te σ2 H3 fun y H4 => ∃ acc, H4 D = some (.lst acc) ∧ acc.length < sizeLine ∧ Pv D (i + 1) (upd H4 D (.lst (acc ++ [y]))) else Pv D (i + 1) H3) (hd : ∀ D H', H D = none → Pv D xs.length H' → Q (.ref D) H') : lcL K a g tt te vs σ H Q :=
  fun D hD => lc_list (Pv D) (h0 D hD) (hl D) (hs D) fun H' p => hd D H' hD p
theorem run_lcT (xs : List V) (Pv : Addr → Nat → Hp → Prop) (h0 : ∀ D, H D = none → Pv D 0 (upd H D (.lst []))) (hl : ∀ D i H, i ≤ xs.length → Pv D i H → SqT K H a xs)
    (hs : ∀ D i x H, xs[i]? = some x → Pv D i H → g x (wipe σ vs) H fun σ2 H2 => wipe σ2 vs = wipe σ vs ∧ tt σ2 H2 fun b H3 =>
      if b = true then te σ2 H3 fun y H4 => ∃ acc, H4 D = some (.lst acc) ∧ acc.length < sizeLine ∧ Pv D (i + 1) (upd H4 D (.lst (acc ++ [y]))) else Pv D (i + 1) H3) (hd : ∀ D H', H D = none → Pv D xs.length H' → Q (.ref D) H') : lcT K a g tt te vs σ H Q :=
  fun D hD => lc_tup (Pv D) (h0 D hD) (hl D) (hs D) fun H' p => hd D H' hD p
end
end HX
namespace HX
open PySem PySem.Spec PyProof.Rows L2
theorem cut_t {tt : TT} {σ : L2.St} {H : Hp} {Q : Bool → Hp → Prop} (R : Bool → Hp → Prop) (h : ∀ Q' : Bool → Hp → Prop, (∀ b H', R b H' → Q' b H') → tt σ H Q') (k : ∀ b H', R b H' → Q b H') : tt σ H Q := h Q k
theorem go_neD {K : PySem.W.Frag} {H : Hp} {Q : VK} {x y : V} {d e : PyData} (h1 : Dq H x d) (h2 : Dq H y e) (s1 : SeqAt.shaped d = true) (s2 : SeqAt.shaped e = true) (q : Q (.bl (!PyData.eqv d e)) H) : rNeD K x y H Q :=
  ⟨d, e, h1.dp (PyData.hasDict_of_canLay d (SeqAt.canLay_of_shaped s1)), h2.dp (PyData.hasDict_of_canLay e (SeqAt.canLay_of_shaped s2)), s1, s2, q⟩
theorem go_eqD {K : PySem.W.Frag} {H : Hp} {Q : VK} {x y : V} {d e : PyData} (h1 : Dq H x d) (h2 : Dq H y e) (s1 : SeqAt.shaped d = true) (s2 : SeqAt.shaped e = true) (q : Q (.bl (PyData.eqv d e)) H) : rEqD K x y H Q :=
  ⟨d, e, h1.dp (PyData.hasDict_of_canLay d (SeqAt.canLay_of_shaped s1)), h2.dp (PyData.hasDict_of_canLay e (SeqAt.canLay_of_shaped s2)), s1, s2, q⟩
end HX
namespace HX
open PySem PySem.Spec PyProof.Rows L2
section
variable {K : PySem.W.Frag} {H : Hp} {Q : VK} {σ : L2.St} {te : TE} {tl th : TO} {QO : Option Int → Hp → Prop} {a : Addr} {xs : List V} {i : Int} {lo hi : Option Int}
theorem go_sl {r : V → Option Int → Option Int → Hp → VK → Prop} (h : te σ H fun x H1 => tl σ H1 fun l H2 => th σ H2 fun u H3 => r x l u H3 Q) : tSl r te tl th σ H Q := h
theorem go_part (h : te σ H fun x H1 => ∃ i, x = .int i ∧ QO (some i) H1) : tPart te σ H QO := h
theorem go_pint {Q : Int → Prop} (h : Q i) : ∃ j, V.int i = V.int j ∧ Q j := ⟨i, rfl, h⟩
theorem go_nopart (h : QO none H) : tNoPart σ H QO := h
theorem go_slT (h : Rd H a (.tup xs)) (hn : ¬ (HT.sIx xs.length 0 lo = 0 ∧ HT.sIx xs.length xs.length hi = xs.length)) (k : ∀ p, H p = none → Q (.ref p) (upd H p (.tup (cutV xs lo hi)))) : rSlT K (.ref a) lo hi H Q := ⟨a, xs, rfl, .inl h, hn, k⟩
theorem go_slL (h : Rd H a (.lst xs)) (k : ∀ p, H p = none → Q (.ref p) (upd H p (.lst (cutV xs lo hi)))) : rSlL K (.ref a) lo hi H Q := ⟨a, xs, rfl, .inl h, k⟩
theorem cut_tail (x : V) (l : List V) : cutV (x :: l) (some 1) none = l ∧ ¬ (HT.sIx (x :: l).length 0 (some 1) = 0 ∧ HT.sIx (x :: l).length (x :: l).length none = (x :: l).length) := by
  have e1 : HT.sIx (x :: l).length 0 (some 1) = 1 := by
    simp [HT.sIx]
  have e2 : HT.sIx (x :: l).length (x :: l).length none = l.length + 1 := by
    simp [HT.sIx]
  refine ⟨?_, by rw [e1]; simp⟩
  unfold cutV
  rw [e1, e2]
  simp
end
end HX
namespace HX
open PySem PySem.Spec PyProof.Rows L2
theorem run_forE {K : PySem.W.Frag} {a : Addr} {g : TG} {tb : TS} {D : Ends} {σ : L2.St} {H : Hp} (xs : List V) (Pv : Nat → L2.St → Hp → Prop) (h0 : Pv 0 σ H) (hl : ∀ i σ H, i ≤ xs.length → Pv i σ H → SqL K H a xs)
    (hs : ∀ i x σ H T, xs[i]? = some x → Pv i σ H → H T = none → g (.ref T) σ (upd H T (.tup [.int (i : Nat), x])) fun σ2 H2 => tb { D with nx := Pv (i + 1), ct := Pv (i + 1), bk := D.nx } σ2 H2)
    (hd : ∀ σ H, Pv xs.length σ H → D.nx σ H) : forE K a g tb D σ H := by
  refine ⟨fun i m σ H => m = xs.length - i ∧ i ≤ xs.length ∧ Pv i σ H, ⟨xs.length, by simp, Nat.zero_le _, h0⟩, ?_⟩
  rintro i m σ H ⟨rfl, hi, p⟩
  have q := hl i σ H hi p
  rcases Nat.lt_or_ge i xs.length with hlt | hge
  · refine .inr ⟨⟨xs, xs[i], q, by simp [hlt]⟩, Pv (i + 1), fun σ' H' p' => ⟨xs.length - (i + 1), by omega, rfl, hlt, p'⟩, ?_⟩
    rintro v H' ⟨T, x, rfl, hT, rfl, y⟩
    exact hs i x σ H T (y xs q) p hT
  · obtain rfl : i = xs.length := by omega
    exact .inl ⟨⟨xs, q, Nat.le_refl _⟩, hd σ H p⟩
end HX

set_option Elab.async false
set_option linter.all false
set_option maxRecDepth 100000
namespace HX
open PySem PySem.Spec PyProof.Rows L2
open Evl (Ex)
/-! ### isinstance of data -/
def tyNm : PyData → String
  | .none => "NoneType"
  | .bool _ => "bool"
  | .int _ => "int"
  | .str _ => "str"
  | .list _ => "list"
  | .tuple _ => "tuple"
  | .dict _ => "dict"
theorem Dq.ty {K : PySem.W.Frag} {H : Hp} {x : V} {d : PyData} (h : Dq H x d) : TyX K H x (.type (tyNm d)) := by
  cases h with
  | non => exact .base .non
  | bl b => exact .base (.bl b)
  | int i => exact .base (.int i)
  | str y => exact .base (.str y)
  | lst h k => rcases h with h | ⟨o, h⟩
               · exact .base (.lst h)
               · exact .base (.frz h)
  | tup h k => rcases h with h | ⟨o, h⟩
               · exact .base (.tup h)
               · exact .fTuple h
  | dic h => exact .base (.dK h)
theorem go_isi {K : PySem.W.Frag} {H : Hp} {x : V} {d : PyData} {T : String} {b : Bool} {Q : VK} (h : Dq H x d) (e : kitB (tyNm d) T = some b) (q : Q (.bl b) H) : rIsi K [x, .ty T] H Q :=
  ⟨x, .ty T, _, _, b, rfl, .ty T, h.ty, kit_ty e, q⟩
def pInt : PyData → Bool
  | .int _ => true
  | .bool _ => true
  | _ => false
theorem kit_int (d : PyData) : kitB (tyNm d) "int" = some (pInt d) := by
  cases d with
  | none => exact (by decide +kernel : kitB "NoneType" "int" = some false)
  | bool _ => exact (by decide +kernel : kitB "bool" "int" = some true)
  | int _ => exact (by decide +kernel : kitB "int" "int" = some true)
  | str _ => exact (by decide +kernel : kitB "str" "int" = some false)
  | list _ => exact (by decide +kernel : kitB "list" "int" = some false)
  | tuple _ => exact (by decide +kernel : kitB "tuple" "int" = some false)
  | dict _ => exact (by decide +kernel : kitB "dict" "int" = some false)
def pBool : PyData → Bool
  | .bool _ => true
  | _ => false
theorem kit_bool (d : PyData) : kitB (tyNm d) "bool" = some (pBool d) := by
  cases d with
  | none => exact (by decide +kernel : kitB "NoneType" "bool" = some false)
  | bool _ => exact (by decide +kernel : kitB "bool" "bool" = some true)
  | int _ => exact (by decide +kernel : kitB "int" "bool" = some false)
  | str _ => exact (by decide +kernel : kitB "str" "bool" = some false)
  | list _ => exact (by decide +kernel : kitB "list" "bool" = some false)
  | tuple _ => exact (by decide +kernel : kitB "tuple" "bool" = some false)
  | dict _ => exact (by decide +kernel : kitB "dict" "bool" = some false)
def pStr : PyData → Bool
  | .str _ => true
  | _ => false
theorem kit_str (d : PyData) : kitB (tyNm d) "str" = some (pStr d) := by
  cases d with
  | none => exact (by decide +kernel : kitB "NoneType" "str" = some false)
  | bool _ => exact (by decide +kernel : kitB "bool" "str" = some false)
  | int _ => exact (by decide +kernel : kitB "int" "str" = some false)
  | str _ => exact (by decide +kernel : kitB "str" "str" = some true)
  | list _ => exact (by decide +kernel : kitB "list" "str" = some false)
  | tuple _ => exact (by decide +kernel : kitB "tuple" "str" = some false)
  | dict _ => exact (by decide +kernel : kitB "dict" "str" = some false)
def pList : PyData → Bool
  | .list _ => true
  | _ => false
theorem kit_list (d : PyData) : kitB (tyNm d) "list" = some (pList d) := by
  cases d with
  | none => exact (by decide +kernel : kitB "NoneType" "list" = some false)
  | bool _ => exact (by decide +kernel : kitB "bool" "list" = some false)
  | int _ => exact (by decide +kernel : kitB "int" "list" = some false)
  | str _ => exact (by decide +kernel : kitB "str" "list" = some false)
  | list _ => exact (by decide +kernel : kitB "list" "list" = some true)
  | tuple _ => exact (by decide +kernel : kitB "tuple" "list" = some false)
  | dict _ => exact (by decide +kernel : kitB "dict" "list" = some false)
def pTuple : PyData → Bool
  | .tuple _ => true
  | _ => false
theorem kit_tuple (d : PyData) : kitB (tyNm d) "tuple" = some (pTuple d) := by
  cases d with
  | none => exact (by decide +kernel : kitB "NoneType" "tuple" = some false)
  | bool _ => exact (by decide +kernel : kitB "bool" "tuple" = some false)
  | int _ => exact (by decide +kernel : kitB "int" "tuple" = some false)
  | str _ => exact (by decide +kernel : kitB "str" "tuple" = some false)
  | list _ => exact (by decide +kernel : kitB "list" "tuple" = some false)
  | tuple _ => exact (by decide +kernel : kitB "tuple" "tuple" = some true)
  | dict _ => exact (by decide +kernel : kitB "dict" "tuple" = some false)
theorem tuple_or (d : PyData) : (∃ ds, d = .tuple ds) ∨ pTuple d = false := by
  cases d with
  | tuple ds => exact .inl ⟨_, rfl⟩
  | _ => exact .inr rfl
theorem str_or (d : PyData) : (∃ x, d = .str x) ∨ pStr d = false := by
  cases d with
  | str ds => exact .inl ⟨_, rfl⟩
  | _ => exact .inr rfl
theorem list_or (d : PyData) : (∃ x, d = .list x) ∨ pList d = false := by
  cases d with
  | list ds => exact .inl ⟨_, rfl⟩
  | _ => exact .inr rfl
/-! ### a tuple unpacked -/
section
variable {K : PySem.W.Frag} {H : Hp} {σ : L2.St} {Q : L2.St → Hp → Prop} {a : Addr} {xs : List V} {n : Nat} {t : TGs} {g : TG} {v : V}
theorem go_gtup (h : SqT K H a xs) (hl : xs.length = n) (k : t xs σ H Q) : gTup K n t (.ref a) σ H Q := ⟨a, xs, rfl, h, hl, k⟩
theorem go_gcons (k : g v σ H fun σ' H' => t xs σ' H' Q) : gCons g t (v :: xs) σ H Q := ⟨v, xs, rfl, k⟩
theorem go_gnil (k : Q σ H) : gNil [] σ H Q := ⟨rfl, k⟩
end
theorem Dq.tupleAt {H : Hp} {x : V} {ds : List PyData} (h : Dq H x (.tuple ds)) : ∃ a xs, x = .ref a ∧ Rd H a (.tup xs) ∧ DqAll H xs ds := by
  cases h with
  | tup h1 h2 => exact ⟨_, _, rfl, h1, h2⟩
theorem Dq.listAt {H : Hp} {x : V} {ds : List PyData} (h : Dq H x (.list ds)) : ∃ a xs, x = .ref a ∧ Rd H a (.lst xs) ∧ DqAll H xs ds := by
  cases h with
  | lst h1 h2 => exact ⟨_, _, rfl, h1, h2⟩
/-! ### a def called by keywords alone -/
def HasK (P : Program) (w : World) (K : PySem.W.Frag) (mg : Str → Option Value) (base : Heap) (k : Nat) (x : Str) (ks : List Str) (g : List Value → List Value) (gV : List V → List V) (sp : Sp) : Prop :=
  ∃ (f : Addr) (fd : FuncData) (ps : List Str), FnOk P w K mg base CX0 k f fd ps sp ∧ mg x = some (.ref f) ∧ PySem.W.keepIn K (.ref f) = true ∧ KBn K fd ps 0 ks (fun _ ws => g ws) (fun _ zs => gV zs)
def tKw (n : Nat) (sp : Sp) (gV : List V → List V) (tk : TA) : TE := fun σ H Q => tk σ H fun zs H2 => zs.length = n ∧ sp (gV zs) H2 Q E0
section
variable {X : Cx} {k n : Nat} {sp : Sp} {x : Str} {p pos : Pos} {kws : List Keyword} {tk : TA} {ks : List Str} {g : List Value → List Value} {gV : List V → List V}
theorem pe_kw (h : HasK X.prog X.w X.K X.mg X.base k x ks g gV sp) (hr : Room n X.A) (hg : Gl X x) (hkw : PK X kws tk) (hkn : k ≤ n := by decide)
    (hall : (backToKw pos (keywordEach kws X.env)).all (·.1.isSome) = true := by rfl) (hks : (backToKw pos (keywordEach kws X.env)).filterMap (·.1) = ks := by rfl) (hdb : (x == ("__debug__" : Str)) = false := by decide)
    (hpl : ((backTo pos (starEach [] X.env)).any (·.1) || (backToKw pos (keywordEach kws X.env)).any (·.1.isNone)) = false := by rfl) :
    PE X (.Call (.Name x p) [] kws pos) (tKw ks.length sp gV tk) := by
  obtain ⟨f, fd, ps, F, hm, hk, hb⟩ := h
  refine ⟨fun pins s σ H Q I h => ?_⟩
  refine wpAny_Call_Name_kw (ld_glob I hg hm ?_ hdb)
  refine PySem.W.callWith_KW0 (h₀ := X.base) I.ok.mod.kin hk hall ?_ hpl
  refine thn (hkw.run pos pins s σ H _ I h) fun ws s2 ⟨zs, H2, I2, rz, l2, q2⟩ => ⟨I2.kIn, ?_⟩
  rw [hks]
  exact run_fnN (us := []) (vs := []) (n := 0) F (hr.mono hkn) hb pass0 I2 .nil rz rfl l2 q2
theorem go_kw {σ : L2.St} {H : Hp} {Q : VK} (h : tk σ H fun zs H2 => zs.length = n ∧ sp (gV zs) H2 Q E0) : tKw n sp gV tk σ H Q := h
end
end HX

set_option Elab.async false
set_option linter.all false
set_option maxRecDepth 100000
namespace HX
open PySem PySem.Spec PyProof.Rows L2
open Evl (Ex)
/-! ### data of moderate size -/
structure Fine (w k : Nat) (d : PyData) : Prop where
  sh : d.showable = true
  lv : d.leavesShort 200 = true
  wt : d.weight ≤ w
  dp : d.depth ≤ k
theorem Fine.mono {w w' k k' : Nat} {d : PyData} (h : Fine w k d) (hw : w ≤ w') (hk : k ≤ k') : Fine w' k' d := ⟨h.sh, h.lv, Nat.le_trans h.wt hw, Nat.le_trans h.dp hk⟩
theorem Fine.none : Fine 0 0 .none := ⟨rfl, rfl, Nat.le_refl _, Nat.le_refl _⟩
theorem Fine.bool (b : Bool) : Fine 0 0 (.bool b) := ⟨rfl, rfl, Nat.le_refl _, Nat.le_refl _⟩
theorem Fine.int {i : Int} (h : i.natAbs < 2 ^ 600) : Fine 600 0 (.int i) := by
  have hl : i.natAbs.log2 < 600 := PySem.Flt.log2_lt_of (by decide) h
  have ht : (toString i).length ≤ 200 := Nat.le_trans (int_text_length_le10 (k := 182) (by decide) (Nat.lt_of_lt_of_le h (by decide +kernel))) (by decide)
  refine ⟨by simp [PyData.showable]; omega, ?_, ?_, Nat.le_refl _⟩
  · simp only [PyData.leavesShort, PyData.shown]
    refine decide_eq_true ?_
    show (Str.ofString (toString i)).length ≤ 200
    rw [PySem.ofString_length]
    exact ht
  · simp only [PyData.weight]
    split <;> omega
theorem Fine.str {x : Str} {n : Nat} (h : (PyData.str x).leavesShort 200 = true) (hn : x.cps.size ≤ n) : Fine n 0 (.str x) := ⟨rfl, h, hn, Nat.le_refl _⟩
theorem fine_all {w k : Nat} : ∀ {l : List PyData}, (∀ x ∈ l, Fine w k x) → PyData.showableAll l = true ∧ PyData.leavesShortAll 200 l = true ∧ PyData.weightAll l ≤ l.length * (w + 1) ∧ PyData.depthAll l ≤ k
  | [], _ => ⟨rfl, rfl, by simp [PyData.weightAll], by simp [PyData.depthAll]⟩
  | x :: l, h => by
    obtain ⟨h1, h2, h3, h4⟩ := fine_all fun y hy => h y (List.mem_cons_of_mem _ hy)
    have hx := h x List.mem_cons_self
    refine ⟨by simp [PyData.showableAll, hx.sh, h1], by simp [PyData.leavesShortAll, hx.lv, h2], ?_, ?_⟩
    · simp only [PyData.weightAll, List.length_cons]
      have := hx.wt
      rw [Nat.add_mul]
      omega
    · simp only [PyData.depthAll]
      have := hx.dp
      omega
theorem Fine.list {w k : Nat} {l : List PyData} (h : ∀ x ∈ l, Fine w k x) : Fine (l.length * (w + 1)) (k + 1) (.list l) := by
  obtain ⟨h1, h2, h3, h4⟩ := fine_all h
  exact ⟨by simpa [PyData.showable] using h1, by simpa [PyData.leavesShort] using h2, by simpa [PyData.weight] using h3, by simpa [PyData.depth] using h4⟩
theorem Fine.tuple {w k : Nat} {l : List PyData} (h : ∀ x ∈ l, Fine w k x) : Fine (l.length * (w + 1)) (k + 1) (.tuple l) := by
  obtain ⟨h1, h2, h3, h4⟩ := fine_all h
  exact ⟨by simpa [PyData.showable] using h1, by simpa [PyData.leavesShort] using h2, by simpa [PyData.weight] using h3, by simpa [PyData.depth] using h4⟩
theorem Fine.dict : Fine 0 1 (.dict []) := ⟨rfl, rfl, by simp [PyData.weight, PyData.weightKv], by simp [PyData.depth, PyData.depthKv]⟩
theorem Fine.shw {w k : Nat} {d : PyData} (h : Fine w k d) (hw : w ≤ 80000) (hk : k ≤ 60) : Shw d := by
  refine ⟨h.sh, ?_, Nat.le_trans h.dp hk⟩
  have := PyData.shown_le 200 (by decide) d h.lv
  have e : sizeLine = 16777216 := sizeLine_eq
  have hw' := Nat.le_trans h.wt hw
  omega
theorem two {l : List PyData} {a b : PyData} {R : PyData → Prop} (ha : R a) (hb : R b) : ∀ x ∈ [a, b], R x := by
  intro x hx
  rcases List.mem_cons.mp hx with rfl | hx
  · exact ha
  · rw [List.mem_singleton.mp hx]; exact hb
theorem go_repr {H : Hp} {Q : VK} {x : V} {d : PyData} {w k : Nat} (h : Dq H x d) (hf : Fine w k d) (hw : w ≤ 80000) (hk : k ≤ 60) (q : Q (.str d.shown) H) : rRepr [x] H Q := ⟨x, d, rfl, h, hf.shw hw hk, q⟩
end HX
namespace HX
open PySem PySem.Spec PyProof.Rows L2
def rListQ (K : PySem.W.Frag) : List V → Hp → VK → Prop := fun xs H Q => ∃ p ys, xs = [.ref p] ∧ (SqL K H p ys ∨ SqT K H p ys) ∧ ∀ l, H l = none → Q (.ref l) (upd H l (.lst ys))
theorem call_listQ {X : Cx} : CallR X (.type "list") (rListQ X.K) := call_list_of
theorem go_listL {K : PySem.W.Frag} {H : Hp} {Q : VK} {p : Addr} {ys : List V} (h : Rd H p (.lst ys)) (k : ∀ l, H l = none → Q (.ref l) (upd H l (.lst ys))) : rListQ K [.ref p] H Q := ⟨p, ys, rfl, .inl (.inl h), k⟩
end HX

set_option Elab.async false
set_option linter.all false
set_option maxRecDepth 100000
set_option maxHeartbeats 2000000
/-! an own error over ValueError whose __init__ says super().__init__(text) and then stores one field -/
namespace SupX
open PySem PySem.W PySem.Calls PyProof.Rows PySem.HandSPX
/-! ### the bound __init__ of ValueError, called -/
section
variable {prog : Program} {w : World} {A : Around} {E : Value → Shared → Prop} {h : Heap} {g : Array GenState} {d : Drawn} {t : Nat} {os : OsState}
variable {nm q : Str} {C N : Addr} {bs bm : List Value} {hdct : Bool} {sn : List Str} {sub : List Value} {ab : Bool} {col : Option Bool} {dd : Option Addr} {k0 k1 k2 k3 k5 : Option Value}
theorem call_mw {u e t0 : Addr} {vs : List Value} {Q : Value → Shared → Prop}
    (hC : h.get? C = some (excClassObj nm q C N bs bm hdct sn sub ab col dd k0 k1 k2 k3 k5 "ValueError.__new__"))
    (he : h.get? e = some (excO C t0)) (hu : h.get? u = some (kxs_mw "ValueError.__init__" e)) (hz : vs.length ≤ sizeLine)
    (hq : ∀ h' t1, (∀ b o, b ≠ e → h.get? b = some o → h'.get? b = some o) → h'.get? e = some (excO C t1) → Q .none ⟨h', g, d, t, os⟩) :
    wpAny (model prog w) A (call (.ref u) vs) Q E ⟨h, g, d, t, os⟩ := by
  have c1 : (Value.type "method-wrapper" == Value.type "method" || Value.type "method-wrapper" == Value.type "builtin_function_or_method" || Value.type "method-wrapper" == Value.type "method-wrapper") = true := by decide
  refine wpAny_call ?_
  refine codeAny_of_tree ?_
  show wpAny _ A.in1 (callAny (.ref u) ⟨vs, []⟩) _ _ _
  simp only [callAny]
  refine wpAny_bind ?_
  refine wpAny_load hu ?_
  simp only [kxs_mw, c1, if_true]
  refine KFB.if_so (by decide) ?_
  refine wpAny_bind ?_
  refine check_bound_init F.excBase_ValueError.toExcCallFacts hC he rfl ?_
  refine wpAny_bind (wpAny_pure ?_)
  refine wpAny_pure ?_
  refine ⟨plainId_quiet F.excBase_ValueError.init.plain _, ?_⟩
  refine codeAny_builtin F.excBase_ValueError.initEntry ?_
  rw [Around.under_plainId F.excBase_ValueError.init.plain _]
  wp_walk
  refine hq _ h.objs.size (fun b o hb ho => ?_) ?_
  · rw [Heap.get?_update_other _ _ (Ne.symm hb)]
    exact Heap.get?_push_of_some _ ho
  · rw [Heap.get?_update_self _ (Heap.get?_push_of_some _ he) rfl]
    rfl
end
/-- o.name(e), o told of a known activation -/
theorem at_method {M : Model} {A : Around} {c : Code} {E : Value → Shared → Prop} {s : Shared} {env : Env} {o e : Expr} {name : Str} {apos pos : Pos} {Q : Value → Shared → Prop} (hl : (apos.endLine == pos.line) = true)
    (hf : methodCallForm 1 (backTo pos (starEach [e] env)) [] = true)
    (h : PySem.wpAt M A c (attributeBase o name env (eval o env)) (fun ov s₁ => wpAny M A (getMethod ov name (do return (← importBound o env).getD true)) (fun fx s₂ => wpAny M A (callWith pos fx.1 fx.2 (backTo pos (starEach [e] env)) []) Q E s₂) E s₁) E s) :
    PySem.wpAt M A c (eval (.Call (.Attribute o name apos) [e] [] pos) env) Q E s := by
  have hp : methodCallPos true o env apos pos = pure pos := by unfold methodCallPos; simp [hl]
  rw [arm_eval_Call]
  refine PySem.wpAt_bind (ks_wpAt_mono h (fun ov s₁ h₁ => ?_) fun _ _ z => z)
  refine PySem.wpAt_of_wpAny ?_
  refine wpAny_bind (wpAny_standAt ?_)
  unfold methodCall
  rw [show methodCallForm ([e].length + ([] : List Keyword).length) (backTo pos (starEach [e] env)) (backToKw pos (keywordEach [] env)) = true from hf]
  refine wpAny_bind (wpAny_holding ?_)
  exact wpAny_mono h₁ (fun fx s₂ h₂ => wpAny_bind (wpAny_of_eq hp h₂)) fun _ _ z => z
/-! ### the text of __init__ -/
def iA (f : Str) (p1 p2 : Pos) : Arguments :=
  { posonlyargs := [], args := [{ arg := "self", annotation := none, pos := p1 }, { arg := f, annotation := none, pos := p2 }], vararg := none, kwonlyargs := [], kw_defaults := [], kwarg := none, defaults := [] }
def iB (f msg : Str) (p1 p2 p3 p4 p5 p6 q1 q2 q3 q4 : Pos) : List Stmt :=
  [.Expr (.Call (.Attribute (.Call (.Name "super" p1) [] [] p2) "__init__" p3) [.Constant (.str msg) 0 p4] [] p5) p6, .Assign [.Attribute (.Name "self" q1) f q2] (.Name f q3) q4]
def iS (f : Str) : Scope :=
  { kind := .function, names := [(PySem.Str.ofString "self", .local), (f, .local), (PySem.Str.ofString "__class__", .free), (PySem.Str.ofString "super", .globalImplicit)], isGenerator := false, isCoroutine := false, more := [] }
/-- what the written part says of the error at C and of its __init__ at fI -/
structure ErrTxt (P : Program) (K : Frag) (mg : Str → Option Value) (nmE fld : Str) (C fI : Addr) : Prop where
  okf : fld = "index" ∨ fld = "word"
  gC : mg nmE = some (.ref C)
  cls : ∃ nm q N bs bm sn sub ab col dd k0 k1 k2 k3 k5, K.lookup C = some (excClassObj nm q C N bs bm true sn sub ab col dd k0 k1 k2 k3 k5 "ValueError.__new__") ∧ refsVE bm = true
  sa : findIn K (.ref C) "__setattr__" = some (some (.builtin "object.__setattr__"))
  ga : findIn K (.ref C) "__getattribute__" = some (some (.builtin "BaseException.__getattribute__"))
  gg : findIn K (.ref C) "__getattr__" = some none
  noN : findIn K (.ref C) fld = some none
  iC : findIn K (.ref C) "__init__" = some (some (.ref fI))
  tC : typeIn K (.ref fI) = some (.type "function")
  kC : keepIn K (.ref C) = true
  exC : subIn K (.ref C) (.type "BaseException") = some true
  veC : subIn K (.ref C) (.type "ValueError") = some true
  meC : mroIn K C (.ref C) = some true
  tyC : typeIn K (.ref C) = some (.type "type")
  hdC : hasDictIn K C = true
  te : exmOne K (.ref C) (.ref C) = some true
  sup : ks_superIn K C C "__init__" = some (some (.builtin "ValueError.__init__"))
  op : nsIn K cStatics "thirdparty.any" = some none
  gs : mg "super" = none
  top : (P.main.scope.names.lookup ("super" : Str)).isSome = false
  fn : ∃ (oc : Value) (od : Option Addr) (doc pm : Value) (an : Option Addr) (ct qn : Value) (q : Str) (osl : Array (Option Value)) (msg : Str) (p1 p2 a1 a2 a3 a4 a5 a6 q1 q2 q3 q4 : Pos) (cc cda : Addr)
      (cl : Value) (cld : Option Addr) (csl : Array (Option Value)) (dl : Value) (dld : Option Addr) (dsl : Array (Option Value)) (vs : Array Value) (file : Str) (tf : Tok),
    K.lookup fI = some ⟨oc, od, .func (fnX "__init__" q (iA fld p1 p2) (iB fld msg a1 a2 a3 a4 a5 a6 q1 q2 q3 q4) (iS fld) [("__class__", cc)] .none .none doc pm an (.ref cda) ct), osl⟩ ∧ codeIn K (.ref cda) q = true ∧
      K.lookup cc = some ⟨cl, cld, .cell (some (.ref C)), csl⟩ ∧ K.lookup cda = some ⟨dl, dld, .fields vs, dsl⟩ ∧ vs[2]? = some (.str file tf) ∧ ((P.main.file : Str) == file) = true ∧ (a3.endLine == a5.line) = true
/-- what __init__ leaves of a fresh exception at x -/
structure InitEnd (fld : Str) (h h' : Heap) (x C dx t1 : Addr) (v : Value) : Prop where
  keep : ∀ b o, b ≠ x → h.get? b = some o → h'.get? b = some o
  obj : h'.get? x = some { cls := .ref C, dict := some dx, data := .fields #[.ref t1, .none, .none, .none, .bool false, .none] }
  dbig : h.objs.size ≤ dx
  dne : dx ≠ x
  ns : h'.Ns1 dx (fun y => if y = fld then some v else none)
structure OwnMade (fld : Str) (h h' : Heap) (e C d : Addr) (v : Value) : Prop where
  keep : ∀ b o, h.get? b = some o → h'.get? b = some o
  new : h.objs.size ≤ e
  obj : ∃ t1 : Addr, h'.get? e = some { cls := .ref C, dict := some d, data := .fields #[.ref t1, .none, .none, .none, .bool false, .none] }
  dbig : h.objs.size ≤ d
  dne : d ≠ e
  ns : h'.Ns1 d (fun y => if y = fld then some v else none)
/-- what stands below: the globals, the built-ins -/
structure Gnd (mg : Str → Option Value) (h : Heap) : Prop where
  lim : h.NoLimit
  g : h.Ns mainGlobals mg
  b : ∃ mb, h.Ns builtinsNs mb ∧ ∀ x : Str, x ≠ "__name__" → mb x = bootBuiltins x
theorem Gnd.keeps {mg : Str → Option Value} {h h' : Heap} (G : Gnd mg h) (k : ∀ b o, h.get? b = some o → h'.get? b = some o) : Gnd mg h' :=
  ⟨G.lim.keeps k, G.g.keeps k, let ⟨mb, q1, q2⟩ := G.b; ⟨mb, q1.keeps k, q2⟩⟩
section
variable {P : Program} {w : World} {A : Around} {E : Value → Shared → Prop} {R : Result → Shared → Prop} {s : Shared} {K : Frag} {mg : Str → Option Value} {nmE fld : Str} {C fI : Addr}
theorem sup_init (T : ErrTxt P K mg nmE fld C fI) {x t0 : Addr} {v : Value} {args : Args} (hargs : args = ⟨[.ref x, v], []⟩ ∨ args = ⟨[.ref x], [(fld, v)]⟩) (X : K.In s.heap) (G : Gnd mg s.heap) (hx : s.heap.get? x = some (excO C t0)) (hnx : K.lookup x = none) (hroom : A.depth < recursionLimit)
    (hq : ∀ h' tk dx t1, InitEnd fld s.heap h' x C dx t1 v → R (.ok (.ret .none)) { s with heap := h', toks := tk }) :
    codeAny (model P w) A (.call (.ref fI) args) R s := by
  obtain ⟨oc, od, doc, pm, an, ct, qn, q, osl, msg, p1, p2, a1, a2, a3, a4, a5, a6, q1, q2, q3, q4, cc, cda, cl, cld, csl, dl, dld, dsl, vs, file, tf, ho, hcd, hcc, hcda, hvs, hfile, hln⟩ := T.fn
  obtain ⟨nm, qq, N, bs, bm, sn, sub, ab, col, dd, k0, k1, k2, k3, k5, hC, hbm⟩ := T.cls
  have hcl : clsIn K C = some { name := nm, bases := bs, mro := .ref C :: bm, ns := N, qualname := qq, hasDict := true, slotNames := sn, subclasses := sub, abstract := ab, collection := col, hasDel := false } := by unfold clsIn; rw [hC] <;> rfl
  obtain ⟨lim, gg, mb, gb, hbb⟩ := G
  have main : ∀ (fld : Str), (args = ⟨[.ref x, v], []⟩ ∨ args = ⟨[.ref x], [(fld, v)]⟩) → (fld = "index" ∨ fld = "word") → findIn K (.ref C) fld = some none →
      K.lookup fI = some ⟨oc, od, .func (fnX "__init__" q (iA fld p1 p2) (iB fld msg a1 a2 a3 a4 a5 a6 q1 q2 q3 q4) (iS fld) [("__class__", cc)] .none .none doc pm an (.ref cda) ct), osl⟩ →
      (∀ h' tk dx t1, InitEnd fld s.heap h' x C dx t1 v → R (.ok (.ret .none)) { s with heap := h', toks := tk }) → codeAny (model P w) A (.call (.ref fI) args) R s := by
    intro fld hargs okf noN ho hq
    have kI : (iS fld).names.lookup ("self" : Str) = some .local := rfl
    have kF : (iS fld).names.lookup fld = some .local := by rcases okf with rfl | rfl <;> decide
    have kC : (iS fld).names.lookup ("__class__" : Str) = some .free := by rcases okf with rfl | rfl <;> decide
    have kS : (iS fld).names.lookup ("super" : Str) = some .globalImplicit := by rcases okf with rfl | rfl <;> decide
    have kD : (fld == ("__debug__" : Str)) = false := by rcases okf with rfl | rfl <;> decide
    have bnd : ∀ s, BindsTo s (fnX "__init__" q (iA fld p1 p2) (iB fld msg a1 a2 a3 a4 a5 a6 q1 q2 q3 q4) (iS fld) [("__class__", cc)] .none .none doc pm an (.ref cda) ct) args [("self", .ref x), (fld, v)] := fun s => by
      rcases hargs with rfl | rfl <;> rcases okf with rfl | rfl <;> exact BindsTo.of_eq rfl
    have lkF : ([("self", Value.ref x), (fld, v)] : List (Str × Value)).reverse.lookup fld = some v := by simp [List.lookup]
    have lkS : ([("self", Value.ref x), (fld, v)] : List (Str × Value)).reverse.lookup ("self" : Str) = some (Value.ref x) := by rcases okf with rfl | rfl <;> rfl
    refine ks_codeAny_call_defAt (fd := fnX "__init__" q (iA fld p1 p2) (iB fld msg a1 a2 a3 a4 a5 a6 q1 q2 q3 q4) (iS fld) [("__class__", cc)] .none .none doc pm an (.ref cda) ct) (binds := [("self", .ref x), (fld, v)])
      hroom (X _ _ ho) rfl lim (codeRec_of X hcd) rfl (bnd _) (fun y hy => ?_) (fun y hy => ?_) (fun h₁ hns k => ?_) rfl rfl rfl
    · rcases okf with rfl | rfl <;> (intro z; simp [iS] at hy; rcases hy with rfl | rfl | rfl | rfl <;> cases z)
    · rcases List.mem_cons.mp hy with rfl | hy
      · exact kI
      · rw [List.mem_singleton.mp hy]
        exact kF
    have X₁ : K.In h₁ := X.keeps k
    have hx₁ := k _ _ hx
    show PySem.wpAt _ _ _ (execs _ _) _ _ _
    refine ks_wpAt_execs_cons (ks_wpAt_Expr_any (at_method hln rfl ?_))
    refine ks_wpAt_super_base (env := ksEnv q (iS fld) s.heap.objs.size fI (.ref cda) cc) kS kC (by decide) rfl (X₁ _ _ ho) rfl rfl rfl (X₁ _ _ hcda) rfl hvs hfile T.top ?_
    refine ks_loadName_global rfl kS (loadGlobal_builtin (env := ksEnv q (iS fld) s.heap.objs.size fI (.ref cda) cc) (gg.keeps k) T.gs (gb.keeps k) ((hbb _ (by decide +kernel)).trans (by first | boot_by_name | rfl | kernel_rfl)) ⟨rfl, ?_⟩)
    refine wpAny_loadName_free rfl kC rfl ⟨_, X₁ _ _ hcc, rfl⟩ ?_
    refine wpAny_loadName_local rfl kI hns lkS ?_
    refine ks_wpAny_isType_cls (X₁ _ _ hC) rfl ⟨rfl, ?_⟩
    have noc : ∀ c, (excO C t0).data ≠ .cls c := fun c z => nomatch z
    refine ks_wpAny_call_super (X₁ _ _ hC) rfl hx₁ rfl noc (looks_mroIn X₁ T.meC) (fun h₂ hso k₂ => ?_)
    have X₂ : K.In h₂ := X₁.keeps k₂
    have hx₂ := k₂ _ _ hx₁
    have hxC : x ≠ C := fun z => by rw [z] at hnx; rw [hnx] at hC; cases hC
    have hsup : alongIn K "__init__" (((.ref C :: bm : List Value).dropWhile (· != .ref C)).drop 1) = some (some (.builtin "ValueError.__init__")) := by
      have z := T.sup
      unfold ks_superIn at z
      rw [hcl] at z
      exact z
    have I₂ : InstAt h₂ x (excO C t0) C none := ⟨hx₂, rfl, rfl, trivial⟩
    refine kxs_getMethod kxs_ValueError hso (looks_opaque X₂ T.op) (l₀ := .ref C :: bm) ((looks_clsIn X₂ hcl).andThen .now) rfl X₂ hsup (I₂.type.andThen (looks_subIn X₂ T.veC)) hxC (by decide) ?_
    have hu : (h₂.push (kxs_mw "ValueError.__init__" x)).get? h₂.objs.size = some (kxs_mw "ValueError.__init__" x) := Heap.get?_push_at rfl rfl
    have k₃ : ∀ b o, h₂.get? b = some o → (h₂.push (kxs_mw "ValueError.__init__" x)).get? b = some o := fun b o e => Heap.get?_push_of_some _ e
    refine kxs_callWith (i := "ValueError.__init__") (x := x) rfl ?_
    refine evalArgs_plain (spliced_cons (wpAny_Constant_str (k := 0) (pos := a4) (spliced_nil ⟨hu, ?_⟩)))
    refine call_mw (X₂.keeps k₃ _ _ hC) (k₃ _ _ hx₂) hu (by show 1 ≤ sizeLine; rw [sizeLine_eq]; decide) fun h₄ t1 k₄ hx₄ => ?_
    -- self.f = f
    have kk : ∀ b o, b ≠ x → h₁.get? b = some o → h₄.get? b = some o := fun b o hb e => k₄ b o hb (k₃ b o (k₂ b o e))
    have hxL : s.heap.objs.size ≠ x := Nat.ne_of_gt (Heap.lt_size hx)
    have hns₄ : h₄.Ns s.heap.objs.size (fun y => ([("self", Value.ref x), (fld, v)] : List (Str × Value)).reverse.lookup y) := hns.at fun o e => kk _ _ hxL e
    have X₄ : K.In h₄ := fun b o e => kk b o (fun z => by rw [z, hnx] at e; cases e) (X₁ b o e)
    refine ks_wpAt_execs_cons (PySem.wpAt_of_wpAny ?_)
    refine plainObj_wpAny_Assign_Attribute ?_
    refine wpAny_Name (wpAny_loadName_local rfl kF hns₄ lkF ?_) kD
    refine wpAny_Name (wpAny_loadName_local rfl kI hns₄ lkS ?_) (by decide)
    refine set_plain X₄ (ox := excO C t1) (od := none) ⟨hx₄, rfl, rfl, trivial⟩ T.sa ?_
    refine exc_osa X₄ hx₄ hcl (show refsVE (.ref C :: bm) = true from hbm) rfl noN (fun h₅ tk₅ dx k₅ dn dne hx₅ hn₅ => ?_)
    refine PySem.wpAt_of_wpAny ?_
    show wpAny _ _ (execs [] _) _ _ _
    have lt1 : s.heap.objs.size ≤ dx := by
      have q1 : s.heap.objs.size < h₄.objs.size := hns₄.lt
      have q2 : h₄.objs.size ≤ dx := dn
      omega
    exact wpAny_execs_nil (hq h₅ tk₅ dx t1 ⟨fun b o hb e => k₅ b o hb (kk b o hb (k b o e)), hx₅, lt1, dne, hn₅⟩)
  exact main fld hargs T.okf T.noN ho hq
theorem sup_made (T : ErrTxt P K mg nmE fld C fI) {v : Value} (X : K.In s.heap) (G : Gnd mg s.heap) (hroom : A.depth + 1 < recursionLimit)
    (hq : ∀ h' tk e d, OwnMade fld s.heap h' e C d v → R (.ok (.ret (.ref e))) { s with heap := h', toks := tk }) :
    codeAny (model P w) A (.call (.ref C) ⟨[v], []⟩) R s := by
  obtain ⟨nm, qq, N, bs, bm, sn, sub, ab, col, dd, k0, k1, k2, k3, k5, hC, hbm⟩ := T.cls
  obtain ⟨hp, g, dr, tk, os⟩ := s
  have k : ∀ b o, hp.get? b = some o → ((hp.push (kdv_tup [v])).push (excO C hp.objs.size)).get? b = some o := fun b o e => Heap.get?_push_of_some _ (Heap.get?_push_of_some _ e)
  have hget : ((hp.push (kdv_tup [v])).push (excO C hp.objs.size)).get? (hp.objs.size + 1) = some (excO C hp.objs.size) := by heap_get
  have hnx : K.lookup (hp.objs.size + 1) = none := by
    cases e : K.lookup (hp.objs.size + 1) with
    | none => rfl
    | some o => exact absurd (Nat.lt_of_succ_lt (Heap.lt_size (X _ _ e : hp.get? (hp.objs.size + 1) = some o))) (Nat.lt_irrefl _)
  refine call_own F.excBase_ValueError (fun X => refsVE_contains X bm hbm) (X _ _ hC) (looks_findIn X T.iC) (fun self => bind_fn X self T.tC) (by show 1 ≤ sizeLine; rw [sizeLine_eq]; decide) ?_
  refine sup_init (s := ⟨(hp.push (kdv_tup [v])).push (excO C hp.objs.size), g, dr, tk, os⟩) T (.inl rfl) (X.keeps k) (G.keeps k) hget hnx hroom fun h' tk' dx t1 I => ?_
  have old : ∀ b o, hp.get? b = some o → h'.get? b = some o := fun b o e => I.keep b o (Nat.ne_of_lt (Nat.lt_succ_of_lt (Heap.lt_size e))) (k b o e)
  have z : hp.objs.size + 1 + 1 ≤ dx := by simpa only [Heap.size_push] using I.dbig
  exact ⟨rfl, hq h' tk' (hp.objs.size + 1) dx ⟨old, Nat.le_succ _, ⟨t1, I.obj⟩, by show hp.objs.size ≤ dx; omega, I.dne, I.ns⟩⟩
end
end SupX

set_option Elab.async false
set_option linter.all false
set_option maxRecDepth 100000
set_option maxHeartbeats 2000000
namespace HX
open PySem PySem.Spec PyProof.Rows L2
theorem relO_fld {fld : Str} {v : V} {v' : Value} (r : RelV v v') (f : Str) : RelO (List.lookup f [(fld, v)]) (if f = fld then some v' else none) := by
  by_cases hw : f = fld
  · subst hw
    rw [if_pos rfl, show List.lookup f [(f, v)] = some v from by simp [List.lookup]]
    exact r
  · rw [if_neg hw, show List.lookup f [(fld, v)] = none from by simp [List.lookup, show (f == fld) = false from by simpa using hw]]
    trivial
theorem gnd_of {X : Cx} {pins : List (Addr × Obj)} {σ : L2.St} {H : Hp} {s : Shared} (I : Inv X pins σ H s) : SupX.Gnd X.mg s.heap :=
  ⟨I.nolimit, I.mod.glob.keeps I.bk, let ⟨mb, q1, q2⟩ := I.mod.blt; ⟨mb, q1.keeps I.bk, q2⟩⟩
section
variable {X : Cx} {nmE fld : Str} {C fI : Addr}
/-- X(e), X an own error with one field -/
def tMkErr (fld : Str) (C : Addr) (ta : TA) : L2.St → Hp → XK → Prop := fun σ H Q => ta σ H fun vs H1 => ∃ v, vs = [v] ∧ ∀ d, H1 d = none → Q (.ref C) (some d) (upd H1 d (.xd [(fld, v)]))
theorem pmk_err {a : Expr} {ta : TA} {p pos : Pos} {k : Nat} (T : SupX.ErrTxt X.prog X.K X.mg nmE fld C fI) (hr : Room k X.A) (ha : PA X [a] ta) (hg : Gl X nmE) (hdb : (nmE == ("__debug__" : Str)) = false)
    (he : starEach (a :: []) X.env = (false, eval a X.env) :: starEach [] X.env := by rfl) (hpl : (backTo pos (starEach [] X.env)).any (·.1) = false := by rfl) :
    PMk X (.Call (.Name nmE p) [a] [] pos) (tMkErr fld C ta) := by
  intro pins s σ H Q I h
  refine wpAny_Call_Name_kw (ld_glob I hg T.gC ?_ hdb)
  refine PySem.W.callWith_K (h₀ := X.base) I.ok.mod.kin T.kC (thn (ha.run pos pins s σ H _ I h) fun us s1 hh => ?_) he hpl
  obtain ⟨vs, H1, I1, r1, v, ev, q1⟩ := hh
  subst ev
  refine ⟨I1.kIn, ?_⟩
  cases r1 with
  | cons rv rn =>
    rename_i v' us'
    cases rn
    show wpAny _ _ (call (.ref C) [v']) _ _ _
    have G1 := gnd_of I1
    obtain ⟨hp, g, dr, tk, os⟩ := s1
    refine wpAny_call (SupX.sup_made T I1.kIn G1 (by have := hr.dp; omega) fun h' tk' e d M => ?_)
    show MkP X pins σ Q (.ref e) ⟨h', g, dr, tk', os⟩
    obtain ⟨t1, hoe⟩ := M.obj
    have hns := M.ns
    obtain ⟨G', g1, g2⟩ := restrict h' fun b => decide (b ≠ e)
    have gk : ∀ b, b ≠ e → G'.get? b = h'.get? b := fun b hb => g1 b (decide_eq_true hb)
    have ge : G'.get? e = none := g2 e (by simp)
    have old : ∀ b o, hp.get? b = some o → G'.get? b = some o := fun b o q => (gk b (Nat.ne_of_lt (Nat.lt_of_lt_of_le (Heap.lt_size q) M.new))).trans (M.keep b o q)
    have ob : ObjOk X.prog X.w (upd H1 d (.xd [(fld, v)])) G' d (.xd [(fld, v)]) :=
      ⟨_, hns.at (fun o q => (gk d M.dne).trans q), fun f => relO_fld rv f⟩
    have J : Inv X pins σ (upd H1 d (.xd [(fld, v)])) ⟨G', g, dr, tk', os⟩ := I1.laid (t' := tk') old M.dbig ob
    refine ⟨e, _, _, ⟨G', g, dr, tk', os⟩, _, .ref C, some d, rfl, J, fun b o q => ?_, ge, hoe, ⟨rfl, rfl⟩, rfl, rfl, ?_, rfl, I1.bare, raises_own T.exC T.tyC, q1 d (I1.hok.fresh M.dbig)⟩
    · by_cases hb : b = e
      · have q' : G'.get? b = some o := q
        rw [hb, ge] at q'; cases q'
      · exact (gk b hb).symm.trans q
    · rw [upd_ne (Ne.symm M.dne)]
      exact I1.hok.fresh M.new
/-- raise X(e) -/
def tRaiseErr (fld : Str) (C : Addr) (W : WX) (ta : TA) : TS := fun _ σ H => tMkErr fld C ta σ H fun cls d H' => W cls d σ H'
theorem ps_raiseErr {a : Expr} {ta : TA} {W : WX} {p pos pos2 : Pos} {k : Nat} (hc : X.calm = true) (T : SupX.ErrTxt X.prog X.K X.mg nmE fld C fI) (hr : Room k X.A) (tk : Takes X W) (ha : PA X [a] ta) (hg : Gl X nmE := by rfl) (hdb : (nmE == ("__debug__" : Str)) = false := by decide)
    (he : starEach (a :: []) X.env = (false, eval a X.env) :: starEach [] X.env := by rfl) (hpl : (backTo pos (starEach [] X.env)).any (·.1) = false := by rfl) :
    PS X (.Raise (some (.Call (.Name nmE p) [a] [] pos)) none pos2) (tRaiseErr fld C W ta) := ps_raise hc tk (pmk_err T hr ha hg hdb he hpl)
/-- e.fld, e the exception that the suite holds (at a; its class cls, its dict d) -/
def tByErr (fld : Str) (C : Addr) (a : Addr) (cls : Value) (d : Option Addr) (te : TE) : TE := fun σ H Q => te σ H fun x H1 => x = .ref a ∧ cls = .ref C ∧ ∃ (dd : Addr) (v : V), d = some dd ∧ H1 dd = some (.xd [(fld, v)]) ∧ Q v H1
theorem pe_byErr {a : Addr} {oe : Obj} {cls : Value} {d : Option Addr} {pn : List (Addr × Obj)} {e : Expr} {te : TE} {pos : Pos} (T : SupX.ErrTxt X.prog X.K X.mg nmE fld C fI) (hz : Zc cls d oe) (hf : ∃ vs, oe.data = .fields vs) (he : PE (X.suite a ((a, oe) :: pn)) e te)
    (hb : attributeBase e fld X.env (eval e X.env) = eval e X.env := by rfl) :
    PE (X.suite a ((a, oe) :: pn)) (.Attribute e fld pos) (tByErr fld C a cls d te) := by
  refine ⟨fun pins s σ H Q I h => ?_⟩
  refine attr_of hb (thn (he.run pins s σ H _ I h) fun u s1 hh => ?_)
  obtain ⟨x, H1, I1, rx, ex, ec, dd, v, ed, ea, q⟩ := hh
  subst ex
  obtain rfl : u = Value.ref a := rx
  subst ec
  subst ed
  obtain ⟨ha, _⟩ := I1.pin (a, oe) (List.mem_append_left _ List.mem_cons_self)
  obtain ⟨vs, hd⟩ := hf
  have hx : ObjOk X.prog X.w H1 s1.heap dd (.xd [(fld, v)]) := I1.hok dd _ ea
  obtain ⟨mA, hns, hr⟩ := hx
  obtain ⟨od, ho, hl⟩ := lookIn_ns hns
  have l : List.lookup fld [(fld, v)] = some v := by simp [List.lookup]
  obtain ⟨u, hu, ru⟩ := RelO.some_of (v := v) (o := mA fld) (by rw [← l]; exact hr fld)
  have J : PySem.W.InstAt s1.heap a oe C (some od) := ⟨ha, hz.1, by unfold PySem.W.notCls; rw [hd] <;> rfl, by rw [hz.2]; exact ho⟩
  exact HandSPX.exc_get I1.kIn J T.ga T.gg T.exC (PySem.W.findObj_own T.hdC T.noN rfl (by rw [hl, hu])) (handed_of ru) ⟨v, H1, I1.tok _, ru, q⟩
end
end HX

set_option Elab.async false
set_option linter.all false
set_option maxRecDepth 100000
set_option maxHeartbeats 2000000
/-! the same errors made by a keyword alone: X(f=v) -/
namespace SupX
open PySem PySem.W PySem.Calls PyProof.Rows PySem.HandSPX
section
variable {P : Program} {w : World} {M : Model} {A : Around} {E : Value → Shared → Prop} {R : Result → Shared → Prop} {h : Heap} {g : Array GenState} {d : Drawn} {t : Nat} {os : OsState}
variable {nm q : Str} {C N : Addr} {bs bm bmB : List Value} {hdct : Bool} {sn : List Str} {sub : List Value} {ab : Bool} {col : Option Bool} {dd : Option Addr} {k0 k1 k2 k3 k5 : Option Value} {kw : List (Str × Value)}
abbrev ve0 : List Value := veTail
theorem kw_check_new (hT : ∀ X : String, bm.contains (.type X) = veTail.contains (.type X)) {Q : Unit → Shared → Prop}
    (hC : h.get? C = some (excClassObj nm q C N bs bm hdct sn sub ab col dd k0 k1 k2 k3 k5 "ValueError.__new__")) (hq : Q () ⟨h, g, d, t, os⟩) :
    wpAny M A (checkBuiltinCall "ValueError.__new__" ⟨[.ref C], kw⟩) Q E ⟨h, g, d, t, os⟩ := by
  have F := F.excBase_ValueError
  have c1 : (Value.ref C :: bm).contains (.type "ValueError") = true := by rw [List.contains_cons, hT, show (Value.type _ == Value.ref C) = false from rfl]; decide +kernel
  have c2 := F.noStar
  simp only [checkBuiltinCall, F.newKind, F.newSplit, F.newRow]
  repeat (first
    | refine wpAny_loadPart_at hC ?_
    | (refine wpAny_isSubtype_exc hC ?_; rw [c1])
    | refine wpAny_staticBase_exc hC ?_
    | refine wpAny_madeBy_exc hC ?_
    | simp only [bne_self_eq_false, Bool.false_eq_true, if_false]
    | wp_step)
  exact hq
theorem kw_new (hT : ∀ X : String, bm.contains (.type X) = veTail.contains (.type X))
    (hC : h.get? C = some (excClassObj nm q C N bs bm hdct sn sub ab col dd k0 k1 k2 k3 k5 "ValueError.__new__"))
    (hq : R (.ok (.ret (.ref (h.objs.size + 1)))) ⟨(h.push (kdv_tup [])).push (excO C h.objs.size), g, d, t, os⟩) :
    codeAny (model P w) A (.builtin "ValueError.__new__" ⟨[.ref C], kw⟩) R ⟨h, g, d, t, os⟩ := by
  have F := F.excBase_ValueError
  have he := F.ends
  have c1 : (Value.ref C :: bm).contains (.type "ValueError") = true := by rw [List.contains_cons, hT, show (Value.type _ == Value.ref C) = false from rfl]; decide +kernel
  have c2 : (Value.ref C :: bm).contains (.type "AttributeError") = false := by rw [List.contains_cons, hT, show (Value.type _ == Value.ref C) = false from rfl]; decide +kernel
  have c3 : (Value.ref C :: bm).contains (.type "NameError") = false := by rw [List.contains_cons, hT, show (Value.type _ == Value.ref C) = false from rfl]; decide +kernel
  refine codeAny_builtinAt F.entry ?_
  unfold Builtin.«BaseException.__new__»
  refine PySem.wpAt_bind ?_
  show PySem.wpAt _ _ _ (stack >>= _) _ _ _
  refine PySem.wpAt_bind (PySem.wpAt_stack fun p below => PySem.wpAt_of_wpAny ?_)
  wp_walk
  refine PySem.wpAt_of_wpAny ?_
  rw [F.owner]
  repeat (first
    | with_reducible refine wpAny_madeHere_exc F.canon hC ?_
    | with_reducible refine wpAny_loadPart_at hC ?_
    | (with_reducible refine wpAny_isSubtype_exc hC ?_; first | rw [c1] | rw [c2] | rw [c3])
    | wp_step)
  show R _ _
  rw [Heap.size_push]
  exact hq
theorem kw_type_call (hT : ∀ X : String, bm.contains (.type X) = veTail.contains (.type X)) {fI : Addr} {Q : Fin → Shared → Prop}
    (hC : h.get? C = some (excClassObj nm q C N bs bm hdct sn sub ab col dd k0 k1 k2 k3 k5 "ValueError.__new__"))
    (hi : Looks (model P w) h (typeLookup (.ref C) "__init__") (some (.ref fI))) (hb : ∀ self, Looks (model P w) h (bindSpecial (.ref fI) self) (.ref fI, [self]))
    (hq : codeAny (model P w) A (.call (.ref fI) ⟨[.ref (h.objs.size + 1)], kw⟩)
      (fun r s' => match r with | .ok (.ret v) => v = .none ∧ Q (.done (.ret (.ref (h.objs.size + 1)))) s' | .ok _ => False | .error e => E e s') ⟨(h.push (kdv_tup [])).push (excO C h.objs.size), g, d, t, os⟩) :
    wpAny (model P w) A (Builtin.«type.__call__» ⟨[.ref C], kw⟩) Q E ⟨h, g, d, t, os⟩ := by
  have F := F.excBase_ValueError
  repeat (first
    | with_reducible refine wpAny_loadPart_at hC ?_
    | with_reducible refine wpAny_madeBy_exc hC ?_
    | wp_step)
  refine codeAny_call_builtin_code (Code.quiet_builtin _ F.quiet) (kw_check_new hT hC ?_)
  refine kw_new hT hC ?_
  show wpAny _ _ _ _ _ _
  have k : ∀ b o, h.get? b = some o → ((h.push (kdv_tup [])).push (excO C h.objs.size)).get? b = some o := fun b o e => Heap.get?_push_of_some _ (Heap.get?_push_of_some _ e)
  have hC1 := k _ _ hC
  have hg : ((h.push (kdv_tup [])).push (excO C h.objs.size)).get? (h.objs.size + 1) = some (excO C h.objs.size) := by heap_get
  have c0 : (Value.ref C :: bm).contains (.ref C) = true := by simp
  have i1 := hi.keeps k
  have b1 := (hb (.ref (h.objs.size + 1))).keeps k
  unfold isInstance
  repeat (first
    | with_reducible refine wpAny_loadPart_at hg ?_
    | (with_reducible refine wpAny_isSubtype_exc hC1 ?_; rw [c0])
    | wp_step)
  show wpAny _ _ (typeLookup (.ref C) _) _ _ _
  refine i1.at ?_
  refine wpAny_holding (wpAny_bind (b1.at ?_))
  refine wpAny_bind (wpAny_call (codeAny_mono hq fun r s' z => ?_))
  rcases r with e | (v | _ | _ | _) <;> first | exact z | exact z.elim | skip
  obtain ⟨rfl, z⟩ := z
  first
    | exact wpAny_pure (wpAny_pure z)
    | (wp_walk; exact z)
theorem kw_call (hT : ∀ X : String, bm.contains (.type X) = veTail.contains (.type X)) {fI : Addr}
    (hC : h.get? C = some (excClassObj nm q C N bs bm hdct sn sub ab col dd k0 k1 k2 k3 k5 "ValueError.__new__"))
    (hi : Looks (model P w) h (typeLookup (.ref C) "__init__") (some (.ref fI))) (hb : ∀ self, Looks (model P w) h (bindSpecial (.ref fI) self) (.ref fI, [self]))
    (hq : codeAny (model P w) (A.under (.builtin "type.__call__" ⟨[.ref C], kw⟩)) (.call (.ref fI) ⟨[.ref (h.objs.size + 1)], kw⟩) (InitBack (h.objs.size + 1) R) ⟨(h.push (kdv_tup [])).push (excO C h.objs.size), g, d, t, os⟩) :
    codeAny (model P w) A (.call (.ref C) ⟨[], kw⟩) R ⟨h, g, d, t, os⟩ := by
  have f1 := tc_lookup
  have f2 := tc_bind (.ref C)
  have hTy : (⟨h, g, d, t, os⟩ : Shared).TypeIs (.ref C) "type" := ⟨_, hC, rfl⟩
  refine codeAny_of_tree ?_
  show wpAny _ _ (callAny (.ref C) _) _ _ _
  repeat (any_goals (first | assumption | with_reducible refine wpAny_loadPart_at hC ?_ | wp_step))
  refine ⟨rfl, ?_⟩
  refine codeAny_call_builtin_at (Code.quiet_builtin _ (by decide +kernel)) entry_typeCall (wpAny_check_type_call_sub hC (kw_type_call hT hC hi hb ?_))
  refine codeAny_mono hq fun r s' z => ?_
  rcases r with e | (v | _ | _ | _) <;> exact z
theorem sup_madeK {s : Shared} {K : Frag} {mg : Str → Option Value} {nmE fld : Str} {C fI : Addr} (T : ErrTxt P K mg nmE fld C fI) {v : Value} (X : K.In s.heap) (G : Gnd mg s.heap) (hroom : A.depth + 1 < recursionLimit)
    (hq : ∀ h' tk e d, OwnMade fld s.heap h' e C d v → R (.ok (.ret (.ref e))) { s with heap := h', toks := tk }) : codeAny (model P w) A (.call (.ref C) ⟨[], [(fld, v)]⟩) R s := by
  obtain ⟨nm, qq, N, bs, bm, sn, sub, ab, col, dd, k0, k1, k2, k3, k5, hC, hbm⟩ := T.cls
  obtain ⟨hp, g, dr, tk, os⟩ := s
  have k : ∀ b o, hp.get? b = some o → ((hp.push (kdv_tup [])).push (excO C hp.objs.size)).get? b = some o := fun b o e => Heap.get?_push_of_some _ (Heap.get?_push_of_some _ e)
  have hget : ((hp.push (kdv_tup [])).push (excO C hp.objs.size)).get? (hp.objs.size + 1) = some (excO C hp.objs.size) := by heap_get
  have hnx : K.lookup (hp.objs.size + 1) = none := by
    cases e : K.lookup (hp.objs.size + 1) with
    | none => rfl
    | some o => exact absurd (Nat.lt_of_succ_lt (Heap.lt_size (X _ _ e : hp.get? (hp.objs.size + 1) = some o))) (Nat.lt_irrefl _)
  refine kw_call (fun X => refsVE_contains X bm hbm) (X _ _ hC) (looks_findIn X T.iC) (fun self => bind_fn X self T.tC) ?_
  refine sup_init (s := ⟨(hp.push (kdv_tup [])).push (excO C hp.objs.size), g, dr, tk, os⟩) T (.inr rfl) (X.keeps k) (G.keeps k) hget hnx hroom fun h' tk' dx t1 I => ?_
  have old : ∀ b o, hp.get? b = some o → h'.get? b = some o := fun b o e => I.keep b o (Nat.ne_of_lt (Nat.lt_succ_of_lt (Heap.lt_size e))) (k b o e)
  have z : hp.objs.size + 1 + 1 ≤ dx := by simpa only [Heap.size_push] using I.dbig
  exact ⟨rfl, hq h' tk' (hp.objs.size + 1) dx ⟨old, Nat.le_succ _, ⟨t1, I.obj⟩, by show hp.objs.size ≤ dx; omega, I.dne, I.ns⟩⟩
end
end SupX

set_option Elab.async false
set_option linter.all false
set_option maxRecDepth 100000
set_option maxHeartbeats 2000000
/-! own errors as values: made, asked by isinstance, read -/
namespace HX
open PySem PySem.Spec PyProof.Rows L2
section
variable {X : Cx} {nmE fld : Str} {C fI : Addr}
/-- a made error is a value: its dict at d, the object at e -/
theorem err_value {pins : List (Addr × Obj)} {σ : L2.St} {H1 : Hp} {Q : VK} {v : V} {v' : Value} {hp h' : Heap} {g : Array GenState} {dr : Drawn} {tk tk' : Nat} {os : OsState} {e d : Addr} (I1 : Inv X pins σ H1 ⟨hp, g, dr, tk, os⟩) (rv : RelV v v') (M : SupX.OwnMade fld hp h' e C d v')
    (q : ∀ d e, H1 d = none → H1 e = none → d ≠ e → Q (.ref e) (upd (upd H1 d (exd d [(fld, v)])) e (exo e C (some d)))) : EP X pins σ Q (.ref e) ⟨h', g, dr, tk', os⟩ := by
  obtain ⟨t1, hoe⟩ := M.obj
  have hns := M.ns
  obtain ⟨G', g1, g2⟩ := restrict h' fun b => decide (b ≠ e)
  have gk : ∀ b, b ≠ e → G'.get? b = h'.get? b := fun b hb => g1 b (decide_eq_true hb)
  have ge : G'.get? e = none := g2 e (by simp)
  have old : ∀ b o, hp.get? b = some o → G'.get? b = some o := fun b o q => (gk b (Nat.ne_of_lt (Nat.lt_of_lt_of_le (Heap.lt_size q) M.new))).trans (M.keep b o q)
  have up : ∀ b o, G'.get? b = some o → h'.get? b = some o := fun b o q => by
    by_cases hb : b = e
    · rw [hb, ge] at q; cases q
    · exact (gk b hb).symm.trans q
  have nd : H1 d = none := I1.hok.fresh M.dbig
  have ne : H1 e = none := I1.hok.fresh M.new
  have J : Inv X pins σ (upd H1 d (exd d [(fld, v)])) ⟨G', g, dr, tk', os⟩ :=
    I1.laid (t' := tk') old M.dbig (exd_ok (fs := [(fld, v)]) (hns.at fun o q => (gk d M.dne).trans q) fun f => relO_fld rv f)
  have ne' : upd H1 d (exd d [(fld, v)]) e = none := by rw [upd_ne (Ne.symm M.dne)]; exact ne
  exact ⟨.ref e, _, J.laidN (t' := tk') up ge ne' (exo_ok hoe), rfl, q d e nd ne M.dne⟩
/-- X(e) as a value -/
def tErrV (fld : Str) (C : Addr) (ta : TA) : TE := fun σ H Q => ta σ H fun vs H1 => ∃ v, vs = [v] ∧ ∀ d e, H1 d = none → H1 e = none → d ≠ e → Q (.ref e) (upd (upd H1 d (exd d [(fld, v)])) e (exo e C (some d)))
theorem pe_errV {a : Expr} {ta : TA} {p pos : Pos} {k : Nat} (T : SupX.ErrTxt X.prog X.K X.mg nmE fld C fI) (hr : Room k X.A) (ha : PA X [a] ta) (hg : Gl X nmE := by rfl) (hdb : (nmE == ("__debug__" : Str)) = false := by decide)
    (he : starEach (a :: []) X.env = (false, eval a X.env) :: starEach [] X.env := by rfl) (hpl : (backTo pos (starEach [] X.env)).any (·.1) = false := by rfl) :
    PE X (.Call (.Name nmE p) [a] [] pos) (tErrV fld C ta) := by
  refine ⟨fun pins s σ H Q I h => ?_⟩
  refine wpAny_Call_Name_kw (ld_glob I hg T.gC ?_ hdb)
  refine PySem.W.callWith_K (h₀ := X.base) I.ok.mod.kin T.kC (thn (ha.run pos pins s σ H _ I h) fun us s1 hh => ?_) he hpl
  obtain ⟨vs, H1, I1, r1, v, ev, q1⟩ := hh
  subst ev
  refine ⟨I1.kIn, ?_⟩
  cases r1 with
  | cons rv rn =>
    cases rn
    rename_i v'
    show wpAny _ _ (call (.ref C) [v']) _ _ _
    have G1 := gnd_of I1
    obtain ⟨hp, g, dr, tk, os⟩ := s1
    exact wpAny_call (SupX.sup_made T I1.kIn G1 (by have := hr.dp; omega) fun h' tk' e d M => err_value I1 rv M q1)
/-- X(f=e) as a value -/
theorem pe_errK {tk : TA} {kws : List Keyword} {p pos : Pos} {k : Nat} (T : SupX.ErrTxt X.prog X.K X.mg nmE fld C fI) (hr : Room k X.A) (hkw : PK X kws tk) (hg : Gl X nmE := by rfl) (hdb : (nmE == ("__debug__" : Str)) = false := by decide)
    (hall : (backToKw pos (keywordEach kws X.env)).all (·.1.isSome) = true := by rfl) (hks : (backToKw pos (keywordEach kws X.env)).filterMap (·.1) = [fld] := by rfl)
    (hpl : ((backTo pos (starEach [] X.env)).any (·.1) || (backToKw pos (keywordEach kws X.env)).any (·.1.isNone)) = false := by rfl) :
    PE X (.Call (.Name nmE p) [] kws pos) (tErrV fld C tk) := by
  refine ⟨fun pins s σ H Q I h => ?_⟩
  refine wpAny_Call_Name_kw (ld_glob I hg T.gC ?_ hdb)
  refine PySem.W.callWith_KW0 (h₀ := X.base) I.ok.mod.kin T.kC hall ?_ hpl
  refine thn (hkw.run pos pins s σ H _ I h) fun ws s1 ⟨zs, H1, I1, rz, v, ev, q1⟩ => ⟨I1.kIn, ?_⟩
  subst ev
  rw [hks]
  cases rz with
  | cons rv rn =>
    cases rn
    rename_i v' _
    show wpAny _ _ (call (.ref C) [] [(fld, v')]) _ _ _
    have G1 := gnd_of I1
    obtain ⟨hp, g, dr, tk, os⟩ := s1
    exact wpAny_call (SupX.sup_madeK T I1.kIn G1 (by have := hr.dp; omega) fun h' tk' e d M => err_value I1 rv M q1)
/-! ### isinstance of such a value -/
def ErrAt (H : Hp) (a C : Addr) : Prop := H a = some (ExO (.ref C) a) ∨ ∃ dx fs, H a = some (exo a C (some dx)) ∧ H dx = some (exd dx fs)
theorem ErrAt.inst {pins : List (Addr × Obj)} {σ : L2.St} {H : Hp} {s : Shared} {a C : Addr} (I : Inv X pins σ H s) (h : ErrAt H a C) : ∃ oe od, PySem.W.InstAt s.heap a oe C od := by
  rcases h with h | ⟨dx, fs, h, hd⟩
  · obtain ⟨⟨oe, vs, ho, hz, hdt, _⟩, _, _⟩ := (show ObjOk X.prog X.w H s.heap a (ExO (.ref C) a) from I.hok a _ h)
    exact ⟨oe, none, ho, hz.1, by unfold PySem.W.notCls; rw [hdt] <;> rfl, by rw [hz.2]; trivial⟩
  · obtain ⟨t1, ho⟩ := exo_at I.hok h
    obtain ⟨mA, hns, _⟩ := exd_at I.hok hd
    obtain ⟨od, hod, _⟩ := lookIn_ns hns
    exact ⟨_, some od, ho, rfl, rfl, hod⟩
theorem ErrAt.ex {H H' : Hp} {a C : Addr} (e : _root_.Evl.Ex H H') (h : ErrAt H a C) : ErrAt H' a C := by
  rcases h with h | ⟨dx, fs, h, hd⟩
  · exact .inl (e _ _ h)
  · exact .inr ⟨dx, fs, e _ _ h, e _ _ hd⟩
/-- isinstance(x, c), x such a value -/
def rIsX (K : PySem.W.Frag) : List V → Hp → VK → Prop := fun xs H Q => ∃ (a C : Addr) (c : V) (cv : Value) (b : Bool), xs = [.ref a, c] ∧ ClsV c cv ∧ ExcC K C ∧ ErrAt H a C ∧ PySem.W.kitOne K (.ref C) cv = some b ∧ Q (.bl b) H
theorem call_isX : CallR X (.builtin "isinstance") (rIsX X.K) := by
  intro pins s σ H xs us Q I r h
  obtain ⟨a, C, c, cv, b, rfl, k, cls, ha, e, q⟩ := h
  obtain ⟨u1, u2, rfl, r1, r2⟩ := vals2 r
  have e2 := k.eq r2
  subst e2
  cases (show u1 = Value.ref a from r1)
  obtain ⟨oe, od, J⟩ := ha.inst I
  have hcl : (PySem.W.clsIn X.K C).isSome = true := by
    obtain ⟨cd, hc, _⟩ := PySem.W.any_some cls.hd
    rw [hc]
    rfl
  exact PySem.W.kia_one (PySem.W.kitx_exc hcl cls.hg cls.hk cls.hs cls.ha cls.hn cls.ht cls.hm) I.kIn J e (fun z => nomatch z) fun tk => ⟨.bl b, H, I.tok tk, rfl, q⟩
/-! ### e.f of such a value -/
/-- what of the class is asked when a field is read -/
structure FldC (K : PySem.W.Frag) (C : Addr) (f : Str) : Prop where
  ga : PySem.W.findIn K (.ref C) "__getattribute__" = some (some (.builtin "BaseException.__getattribute__"))
  gg : PySem.W.findIn K (.ref C) "__getattr__" = some none
  noN : PySem.W.findIn K (.ref C) f = some none
  exC : PySem.W.subIn K (.ref C) (.type "BaseException") = some true
  hdC : PySem.W.hasDictIn K C = true
theorem FldC.of {P : Program} {K : PySem.W.Frag} {mg : Str → Option Value} (T : SupX.ErrTxt P K mg nmE fld C fI) : FldC K C fld := ⟨T.ga, T.gg, T.noN, T.exC, T.hdC⟩
def tErrF (K : PySem.W.Frag) (f : Str) (te : TE) : TE := fun σ H Q => te σ H fun x H1 => ∃ (a C dx : Addr) (fs : List (Str × V)) (v : V), x = .ref a ∧ FldC K C f ∧ H1 a = some (exo a C (some dx)) ∧ H1 dx = some (exd dx fs) ∧ fs.lookup f = some v ∧ Q v H1
theorem pe_errF {e : Expr} {te : TE} {f : Str} {pos : Pos} (he : PE X e te) (hb : attributeBase e f X.env (eval e X.env) = eval e X.env := by rfl) : PE X (.Attribute e f pos) (tErrF X.K f te) := by
  refine ⟨fun pins s σ H Q I h => ?_⟩
  refine attr_of hb (thn (he.run pins s σ H _ I h) fun u s1 ⟨x, H1, I1, rx, a, C, dx, fs, v, ex, T, ea, ed, l, q⟩ => ?_)
  subst ex
  obtain rfl : u = Value.ref a := rx
  obtain ⟨t1, ho⟩ := exo_at I1.hok ea
  obtain ⟨mA, hns, hr⟩ := exd_at I1.hok ed
  obtain ⟨od, hod, hl⟩ := lookIn_ns hns
  obtain ⟨w, hw, rw'⟩ := RelO.some_of (v := v) (o := mA f) (by rw [← l]; exact hr f)
  have J : PySem.W.InstAt s1.heap a _ C (some od) := ⟨ho, rfl, rfl, hod⟩
  exact HandSPX.exc_get I1.kIn J T.ga T.gg T.exC (PySem.W.findObj_own T.hdC T.noN rfl (by rw [hl, hw])) (handed_of rw') ⟨v, H1, I1.tok _, rw', q⟩
theorem pe_errFK {K : PySem.W.Frag} {e : Expr} {te : TE} {f : Str} {pos : Pos} (hK : X.K = K) (he : PE X e te) (hb : attributeBase e f X.env (eval e X.env) = eval e X.env := by rfl) : PE X (.Attribute e f pos) (tErrF K f te) := by
  subst hK
  exact pe_errF he hb
end
end HX

set_option Elab.async false
set_option linter.all false
set_option maxRecDepth 100000
set_option maxHeartbeats 1000000

namespace Kx
open PySem PySem.Spec PyProof.Rows L2 HX
open Evl (Ex)
def top (i : Nat) : Stmt := PySem.Challenge.pw_imagetones_k00_errors_made.main.body.getD i (.Pass ⟨0, 0, 0, 0⟩)
/-- the tank: what is left of a cell, a seed, how many draws were mixed (n at most) -/
def JarAt (n : Nat) (H : Hp) (j : Addr) : Prop := ∃ a b c : Int, H j = some (.lst [.int a, .int b, .int c]) ∧ 0 ≤ b ∧ b < 2 ^ 95 ∧ 0 ≤ c ∧ c ≤ n
theorem JarAt.mono {n m : Nat} {H : Hp} {j : Addr} (h : JarAt n H j) (e : n ≤ m) : JarAt m H j := by
  obtain ⟨a, b, c, h1, h2, h3, h4, h5⟩ := h
  exact ⟨a, b, c, h1, h2, h3, h4, by omega⟩
theorem JarAt.keep {n : Nat} {H H' : Hp} {j : Addr} (h : JarAt n H j) (e : H' j = H j) : JarAt n H' j := let ⟨a, b, c, h, r⟩ := h; ⟨a, b, c, e.trans h, r⟩
theorem JarAt.obj {n : Nat} {H : Hp} {j : Addr} (h : JarAt n H j) : ∃ o, H j = some o := let ⟨_, _, _, h, _⟩ := h; ⟨_, h⟩
def spJar (K : PySem.W.Frag) : Sp := fun vs H Q _ => ∃ (a : Addr) (ns : List Int) (i : Nat), vs = [.ref a, .int i] ∧ SqL K H a (ns.map V.int) ∧ i < 1000 ∧ ∀ j H', H j = none → Ex H H' → JarAt 0 H' j → Q (.ref j) H'
def spPick : Sp := fun vs H Q _ => ∃ (j : Addr) (bound : Int) (n : Nat), vs = [.ref j, .int bound] ∧ JarAt n H j ∧ n < 2 ^ 50 ∧ 0 < bound ∧ bound < 2 ^ 400 ∧
  ∀ (r : Int) (H' : Hp), 0 ≤ r → r < bound → JarAt (n + 1) H' j → Jx [j] H H' → Q (.int r) H'
theorem pick_go {j : Addr} {bound : Int} {n : Nat} {H : Hp} {Q : VK} {E : XK} (hJ : JarAt n H j) (hn : n < 2 ^ 50) (h0 : 0 < bound) (h1 : bound < 2 ^ 400)
    (k : ∀ (r : Int) (H' : Hp), 0 ≤ r → r < bound → JarAt (n + 1) H' j → Jx [j] H H' → Q (.int r) H') : spPick ([.ref j, .int bound] ++ []) H Q E := ⟨j, bound, n, rfl, hJ, hn, h0, h1, k⟩
local macro_rules | `(tactic| walk_at "side") => `(tactic| first | assumption | ((try dsimp only); first | assumption | decide +kernel | omega | exact ⟨by decide, by decide⟩ | (left; decide) | (left; omega) | (refine Or.inl ⟨?_, ?_⟩ <;> omega) | (refine Or.inr ⟨?_, ?_⟩ <;> omega)))
local macro_rules | `(tactic| walk_at "heap") => `(tactic| first | assumption | exact upd_same | exact Or.inl (by assumption) | exact Or.inl upd_same)
local macro_rules | `(tactic| walk_at "item") => `(tactic| first | exact rfl | exact atI_nat (j := 0) rfl | exact atI_nat (j := 1) rfl | exact atI_nat (j := 2) rfl | assumption)
local macro_rules | `(tactic| walk_at "rd") => `(tactic| repeat (first
  | ((with_reducible refine' go_var ?hv ?_); (case hv => exact rfl))
  | with_reducible refine' go_c ?_
  | with_reducible refine' go_op ?_
  | with_reducible refine' go_seq ?_
  | with_reducible refine' go_asg ?_
  | with_reducible refine' go_name ?_
  | with_reducible refine' go_cons ?_
  | with_reducible refine' go_nil ?_
  | with_reducible refine' go_cb ?_
  | with_reducible refine' go_call ?_
  | with_reducible refine' go_ifS ?_
  | with_reducible refine' go_test ?_
  | with_reducible refine' go_bl ?_
  | with_reducible refine' go_ret ?_
  | with_reducible refine' go_I0 ?_
  | ((with_reducible refine' go_I ?cc ?_); (case cc => walk_at "side"))
  | ((with_reducible refine' go_ixL ?hh ?hk ?_); (case hh => walk_at "heap"); (case hk => walk_at "item"))
  | ((with_reducible refine' go_ixT ?hh ?hk ?_); (case hh => walk_at "heap"); (case hk => walk_at "item"))
  | ((with_reducible refine' go_lenL ?hh ?_); (case hh => walk_at "heap"))
  | ((with_reducible refine' go_lenT ?hh ?_); (case hh => walk_at "heap"))
  | ((with_reducible refine' go_setL ?hh ?hk ?_); (case hh => walk_at "heap"); (case hk => walk_at "item"))
  | with_reducible refine' go_abs ?_
  | with_reducible refine' go_max ?_
  | with_reducible refine' go_min ?_
  | with_reducible refine' go_int ?_
  | with_reducible refine' go_intB ?_
  | (with_reducible refine' go_eq rfl ?_)
  | (with_reducible refine' go_ne rfl ?_)
  | with_reducible refine' go_isN ?_
  | with_reducible refine' go_notN ?_
  | with_reducible refine' go_if ?_
  | with_reducible refine' go_sub ?_
  | with_reducible refine' go_par ?_
  | with_reducible refine' go_sl ?_
  | with_reducible refine' go_part ?_
  | with_reducible refine' go_pint ?_
  | with_reducible refine' go_nopart ?_
  | ((with_reducible refine' go_lenL ?hh ?_); (case hh => walk_at "heap"))
  | ((with_reducible refine' go_lenT ?hh ?_); (case hh => walk_at "heap"))
  | ((with_reducible refine' go_lenS ?hh ?_); (case hh => assumption))
  | with_reducible refine' go_gcons ?_
  | with_reducible refine' go_gnil ?_
  | with_reducible refine' go_kw ?_
  | with_reducible refine' go_par2 ?_
  | with_reducible refine' go_next ?_
  | with_reducible refine' go_drop ?_
  | with_reducible refine' go_and ?_
  | with_reducible refine' go_or ?_
  | with_reducible refine' go_not ?_
  | with_reducible refine' go_B ?_
  | with_reducible refine' go_andV ?_
  | with_reducible refine' go_orV ?_
  | with_reducible refine' go_notV ?_
  | with_reducible refine' go_chain ?_
  | with_reducible refine' go_un ?_
  | with_reducible refine' go_U ?_
  | with_reducible refine' go_bm ?_
  | with_reducible refine' go_tup ?_
  | with_reducible refine' go_lst ?_
  | with_reducible refine' go_forR1 ?_
  | with_reducible refine' go_forR2 ?_
  | with_reducible refine' go_forL ?_
  | with_reducible refine' go_forT ?_
  | with_reducible refine' go_forE ?_
  | with_reducible refine' go_lcR1 ?_
  | with_reducible refine' go_lcL ?_
  | with_reducible refine' go_lcT ?_
  | ((with_reducible refine' go_tyL ?hh ?_); (case hh => walk_at "heap"))
  | ((with_reducible refine' go_new ?hz ?_); (case hz => exact Nat.le_of_ble_eq_true rfl))
  | (with_reducible refine' ⟨_, rfl, ?_⟩)
  ))
--MACEND
section
variable {P : Program} {w : World} {K : PySem.W.Frag} {mg : Str → Option Value} {base : Heap}
abbrev s__law_tank : Stmt := top 15
theorem sc__law_tank : FnScope ["script", "at", "cell"] ["script", "at"] (defScope s__law_tank) := ⟨rfl, rfl, rfl, by decide +kernel, rfl, by decide +kernel, by decide +kernel⟩
theorem ok_tank {f : Addr} {fd : FuncData} (F : Fun K "_law_tank" "_law_tank" s__law_tank f fd) (m_len : mg "len" = none) (m_max : mg "max" = none) (m_abs : mg "abs" = none) (m_int : mg "int" = none) :
    FnOk P w K mg base CX0 1 f fd ["script", "at"] (spJar K) := by
  refine F.ok sc__law_tank (fun vs H Q E h => ?_) (fun cdv A outer s H vs Q E hr h => ?_)
  · obtain ⟨a, ns, i, rfl, _⟩ := h
    rfl
  · obtain ⟨a, ns, i, rfl, hS, hi, k⟩ := h
    refine ⟨_, (pss_cons (ps_set (i := 2) sc__law_tank.nd rfl (Or.inl rfl) (pe_ifExp (pt_cmpR op_lt (pv 1) (pe_callB call_lenQ rfl m_len PySem.boot_len (pa_cons (pv 0) pa_nil)) (nomark _)) (pe_ix ix_list (pv 0) (pv 1) (fun _ _ => rfl)) pe_int))
  (pss_one (ps_ret (pe_lst (pa_cons (pe_callB (call_maxQ rfl) rfl m_max boot_max (pa_cons pe_int (pa_cons (pe_op op_sub (pe_callB call_absQ rfl m_abs (by decide +kernel) (pa_cons (pv 2) pa_nil)) (pe_op op_powW pe_int pe_int)) pa_nil))) (pa_cons (pe_op op_add (pe_op op_mod (pe_callTy call_intQ rfl m_int boot_int (pa_cons (pv 2) pa_nil)) pe_int) (pe_op op_mul pe_int (pe_op op_add (pv 1) pe_int))) (pa_cons pe_int pa_nil))))))), ?_⟩
    refine cut_e (te := tIf _ _ _) (fun v H' => ∃ cell : Int, v = .int cell ∧ H' = H) (fun Q' q => ?_) ?_
    · refine ⟨_, rfl, _, rfl, a, _, rfl, .inl hS, _, _, rfl, rfl, _, rfl, ite2 (fun h => ?_) (fun h => q _ _ ⟨_, rfl, rfl⟩)⟩
      have hlt : i < ns.length := by simpa using h
      refine ⟨_, rfl, _, rfl, _, _, _, V.int ns[i], rfl, rfl, hS, atI_nat (by simp [hlt]), q _ _ ⟨_, rfl, rfl⟩⟩
    · rintro v H' ⟨cell, rfl, rfl⟩
      have c18 : CPowW 10 18 := wide_pow (b := 4) (by decide) (by decide) (by decide)
      walk_at "rd"
      intro p hp
      refine k _ _ hp (Ex.new hp) ⟨_, _, _, upd_same, ?_, ?_, by decide, by decide⟩
      · omega
      · omega
abbrev s__law_tap : Stmt := top 16
theorem sc__law_tap : FnScope ["tank", "many", "drawn", "mixed"] ["tank", "many"] (defScope s__law_tap) := ⟨rfl, rfl, rfl, by decide +kernel, rfl, by decide +kernel, by decide +kernel⟩
theorem ok_tap {f : Addr} {fd : FuncData} (F : Fun K "_law_tap" "_law_tap" s__law_tap f fd) (m_int : mg "int" = none) :
    FnOk P w K mg base CX0 1 f fd ["tank", "many"] spPick := by
  refine F.ok sc__law_tap (fun vs H Q E h => ?_) (fun cdv A outer s H vs Q E hr h => ?_)
  · obtain ⟨j, bound, n, rfl, _⟩ := h
    rfl
  · obtain ⟨j, bound, n, rfl, ⟨a, b, c, hj, b0, b1, c0, c1⟩, hn, hb0, hb1, k⟩ := h
    refine ⟨_, (pss_cons (ps_if (pt_cmpR op_gt (pe_ix ix_list (pv 0) pe_int (fun _ _ => rfl)) pe_int (nomark _))
  (pss_cons (ps_set (i := 2) sc__law_tap.nd rfl (Or.inl rfl) (pe_op op_mod (pe_callTy call_intQ rfl m_int boot_int (pa_cons (pe_ix ix_list (pv 0) pe_int (fun _ _ => rfl)) pa_nil)) (pv 1)))
  (pss_cons (ps_asg (pe_op op_fdivW (pe_ix ix_list (pv 0) pe_int (fun _ _ => rfl)) (pv 1)) (pg_sub (pv 0) pe_int set_list))
  (pss_one (ps_ret (pv 2)))))
  pss_nil)
  (pss_cons (ps_asg (pe_op op_add (pe_ix ix_list (pv 0) pe_int (fun _ _ => rfl)) pe_int) (pg_sub (pv 0) pe_int set_list))
  (pss_cons (ps_set (i := 3) sc__law_tap.nd rfl (Or.inl rfl) (pe_op op_mod (pe_callTy call_intQ rfl m_int boot_int (pa_cons (pe_op op_powW (pe_op op_add (pe_ix ix_list (pv 0) pe_int (fun _ _ => rfl)) (pe_op op_mul pe_int (pe_ix ix_list (pv 0) pe_int (fun _ _ => rfl)))) pe_int) pa_nil)) pe_int))
  (pss_cons (ps_set (i := 3) sc__law_tap.nd rfl (Or.inl rfl) (pe_op op_mod (pe_callTy call_intQ rfl m_int boot_int (pa_cons (pe_op op_powW (pe_op op_add (pv 3) (pe_op op_mul pe_int (pe_ix ix_list (pv 0) pe_int (fun _ _ => rfl)))) pe_int) pa_nil)) (pe_op op_add (pe_op op_powW pe_int pe_int) pe_int)))
  (pss_one (ps_ret (pe_op op_mod (pe_callTy call_intQ rfl m_int boot_int (pa_cons (pe_op op_fdiv (pv 3) pe_int) pa_nil)) (pv 1)))))))), ?_⟩
    have e46 : (10 : Int) ^ (46 : Int).toNat + 9 = 10000000000000000000000000000000000000000000009 := by decide +kernel
    have p46 : CPowW 10 46 := wide_pow (b := 4) (by decide) (by decide) (by decide)
    walk_at "rd"
    refine ite2 (fun h => ?_) (fun h => ?_)
    · have ha : 0 < a := by simpa using h
      have hd : CDivW a bound := wide_div (b := 400) hb0 (by omega) (by decide) (by decide)
      walk_at "rd"
      exact k _ _ (Int.emod_nonneg _ (by omega)) (Int.emod_lt_of_pos _ hb0) ⟨_, b, c, upd_same, b0, b1, c0, by omega⟩ (Jx.upd (by simp))
    · have q1 : CPowW (b + 350377 * (c + 1)) 3 := wide_pow (b := 200) (by omega) (by decide) (by decide)
      have q2 : ∀ z : Int, CPowW (z % 170141183460469231731687303715884105727 + 27644437 * (c + 1)) 3 := fun z => wide_pow (b := 200) (by omega) (by decide) (by decide)
      walk_at "rd"
      refine go_I (q2 _) ?_
      walk_at "rd"
      refine k _ _ (Int.emod_nonneg _ (by omega)) (Int.emod_lt_of_pos _ hb0) ⟨a, b, c + 1, upd_same, b0, b1, by omega, by omega⟩ (Jx.upd (by simp))
end
end Kx

set_option Elab.async false
set_option linter.all false
set_option maxRecDepth 100000
set_option maxHeartbeats 2000000

namespace Kx
open PySem PySem.Spec PyProof.Rows L2 HX
open Evl (Ex)
local macro_rules | `(tactic| walk_at "side") => `(tactic| first | assumption | ((try dsimp only); first | assumption | decide +kernel | omega | exact ⟨by decide, by decide⟩ | (left; decide) | (left; omega) | (refine Or.inl ⟨?_, ?_⟩ <;> omega) | (refine Or.inr ⟨?_, ?_⟩ <;> omega)))
local macro_rules | `(tactic| walk_at "heap") => `(tactic| first | assumption | exact upd_same | exact Or.inl (by assumption) | exact Or.inl upd_same)
local macro_rules | `(tactic| walk_at "item") => `(tactic| first | exact rfl | exact atI_nat (j := 0) rfl | exact atI_nat (j := 1) rfl | exact atI_nat (j := 2) rfl | assumption)
local macro_rules | `(tactic| walk_at "rd") => `(tactic| repeat (first
  | ((with_reducible refine' go_var ?hv ?_); (case hv => exact rfl))
  | with_reducible refine' go_c ?_
  | with_reducible refine' go_op ?_
  | with_reducible refine' go_seq ?_
  | with_reducible refine' go_asg ?_
  | with_reducible refine' go_name ?_
  | with_reducible refine' go_cons ?_
  | with_reducible refine' go_nil ?_
  | with_reducible refine' go_cb ?_
  | with_reducible refine' go_call ?_
  | with_reducible refine' go_ifS ?_
  | with_reducible refine' go_test ?_
  | with_reducible refine' go_bl ?_
  | with_reducible refine' go_ret ?_
  | with_reducible refine' go_I0 ?_
  | ((with_reducible refine' go_I ?cc ?_); (case cc => walk_at "side"))
  | ((with_reducible refine' go_ixL ?hh ?hk ?_); (case hh => walk_at "heap"); (case hk => walk_at "item"))
  | ((with_reducible refine' go_ixT ?hh ?hk ?_); (case hh => walk_at "heap"); (case hk => walk_at "item"))
  | ((with_reducible refine' go_lenL ?hh ?_); (case hh => walk_at "heap"))
  | ((with_reducible refine' go_lenT ?hh ?_); (case hh => walk_at "heap"))
  | ((with_reducible refine' go_setL ?hh ?hk ?_); (case hh => walk_at "heap"); (case hk => walk_at "item"))
  | with_reducible refine' go_abs ?_
  | with_reducible refine' go_max ?_
  | with_reducible refine' go_min ?_
  | with_reducible refine' go_int ?_
  | with_reducible refine' go_intB ?_
  | (with_reducible refine' go_eq rfl ?_)
  | (with_reducible refine' go_ne rfl ?_)
  | with_reducible refine' go_isN ?_
  | with_reducible refine' go_notN ?_
  | with_reducible refine' go_if ?_
  | with_reducible refine' go_sub ?_
  | with_reducible refine' go_par ?_
  | with_reducible refine' go_sl ?_
  | with_reducible refine' go_part ?_
  | with_reducible refine' go_pint ?_
  | with_reducible refine' go_nopart ?_
  | ((with_reducible refine' go_lenL ?hh ?_); (case hh => walk_at "heap"))
  | ((with_reducible refine' go_lenT ?hh ?_); (case hh => walk_at "heap"))
  | ((with_reducible refine' go_lenS ?hh ?_); (case hh => assumption))
  | with_reducible refine' go_gcons ?_
  | with_reducible refine' go_gnil ?_
  | with_reducible refine' go_kw ?_
  | with_reducible refine' go_par2 ?_
  | with_reducible refine' go_next ?_
  | with_reducible refine' go_drop ?_
  | with_reducible refine' go_and ?_
  | with_reducible refine' go_or ?_
  | with_reducible refine' go_not ?_
  | with_reducible refine' go_B ?_
  | with_reducible refine' go_andV ?_
  | with_reducible refine' go_orV ?_
  | with_reducible refine' go_notV ?_
  | with_reducible refine' go_chain ?_
  | with_reducible refine' go_un ?_
  | with_reducible refine' go_U ?_
  | with_reducible refine' go_bm ?_
  | with_reducible refine' go_tup ?_
  | with_reducible refine' go_lst ?_
  | with_reducible refine' go_forR1 ?_
  | with_reducible refine' go_forR2 ?_
  | with_reducible refine' go_forL ?_
  | with_reducible refine' go_forT ?_
  | with_reducible refine' go_forE ?_
  | with_reducible refine' go_lcR1 ?_
  | with_reducible refine' go_lcL ?_
  | with_reducible refine' go_lcT ?_
  | ((with_reducible refine' go_tyL ?hh ?_); (case hh => walk_at "heap"))
  | ((with_reducible refine' go_new ?hz ?_); (case hz => exact Nat.le_of_ble_eq_true rfl))
  | (with_reducible refine' ⟨_, rfl, ?_⟩)
  ))
--MACEND
abbrev veM : List Value := [.type "ValueError", .type "Exception", .type "BaseException", .type "object"]
/-- a class without an __init__ of its own -/
structure Plain (K : PySem.W.Frag) (mg : Str → Option Value) (x : Str) (C : Addr) : Prop where
  g : mg x = some (.ref C)
  x : PySem.W.excIn K C veM "ValueError.__new__" = true
  k : PySem.W.keepIn K (.ref C) = true
/-- the package's errors: cs 0 to cs 11, ToneError at T -/
structure Tab (P : Program) (K : PySem.W.Frag) (mg : Str → Option Value) (cs fi : Nat → Addr) (T : Addr) : Prop where
  p0 : Plain K mg "InvalidSignal" (cs 0)
  p1 : Plain K mg "InvalidDial" (cs 1)
  p2 : Plain K mg "InvalidTone" (cs 2)
  p3 : Plain K mg "InvalidBand" (cs 3)
  p4 : Plain K mg "InvalidNumber" (cs 4)
  p5 : Plain K mg "Impossible" (cs 5)
  p6 : Plain K mg "NothingToUndo" (cs 6)
  p7 : Plain K mg "InvalidCommand" (cs 7)
  pT : Plain K mg "ToneError" T
  t8 : SupX.ErrTxt P K mg "InvalidReceiver" "index" (cs 8) (fi 8)
  t9 : SupX.ErrTxt P K mg "InvalidLooks" "index" (cs 9) (fi 9)
  t10 : SupX.ErrTxt P K mg "InvalidSignals" "index" (cs 10) (fi 10)
  t11 : SupX.ErrTxt P K mg "InvalidSyntax" "word" (cs 11) (fi 11)
  cls : ∀ i, i < 12 → ExcC K (cs i)
  clsT : ExcC K T
  kk : ∀ i j, i < 12 → j < 12 → PySem.W.kitOne K (.ref (cs i)) (.ref (cs j)) = some (decide (i = j))
  kT : ∀ i, i < 12 → PySem.W.kitOne K (.ref (cs i)) (.ref T) = some true
  kV : ∀ i, i < 12 → PySem.W.kitOne K (.ref (cs i)) (.type "ValueError") = some true
  tk : ∀ j, j < 12 → PySem.W.kitOne K (.ref T) (.ref (cs j)) = some false
  tV : PySem.W.kitOne K (.ref T) (.type "ValueError") = some true
theorem go_isX {K : PySem.W.Frag} {H : Hp} {Q : VK} {a C D : Addr} {b : Bool} (k : ExcC K C) (h : ErrAt H a C) (e : PySem.W.kitOne K (.ref C) (.ref D) = some b) (q : Q (.bl b) H) : rIsX K [.ref a, .ref D] H Q := ⟨a, C, _, _, b, rfl, .own D, k, h, e, q⟩
theorem go_isXt {K : PySem.W.Frag} {H : Hp} {Q : VK} {a C : Addr} {n : String} {b : Bool} (k : ExcC K C) (h : ErrAt H a C) (e : PySem.W.kitOne K (.ref C) (.type n) = some b) (q : Q (.bl b) H) : rIsX K [.ref a, .ty n] H Q := ⟨a, C, _, _, b, rfl, .ty n, k, h, e, q⟩
def spKinds (K : PySem.W.Frag) (cs : Nat → Addr) : Sp := fun vs H Q _ => ∃ (a C : Addr) (bs : Nat → Bool), vs = [.ref a] ∧ ErrAt H a C ∧ ExcC K C ∧ (∀ j, j < 12 → PySem.W.kitOne K (.ref C) (.ref (cs j)) = some (bs j)) ∧
  ∀ p H', H p = none → Ex H H' → H' p = some (.lst ((List.range 12).map fun j => .bl (bs j))) → Q (.ref p) H'
section
variable {P : Program} {w : World} {K : PySem.W.Frag} {mg : Str → Option Value} {base : Heap} {cs fi : Nat → Addr} {T : Addr}
abbrev s__law_kinds : Stmt := top 17
theorem sc__law_kinds : FnScope ["made", "found"] ["made"] (defScope s__law_kinds) := ⟨rfl, rfl, rfl, by decide +kernel, rfl, by decide +kernel, by decide +kernel⟩
theorem ok_kinds {f : Addr} {fd : FuncData} (F : Fun K "_law_kinds" "_law_kinds" s__law_kinds f fd) (B : Tab P K mg cs fi T) (m_isinstance : mg "isinstance" = none) :
    FnOk P w K mg base CX0 1 f fd ["made"] (spKinds K cs) := by
  refine F.ok sc__law_kinds (fun vs H Q E h => ?_) (fun cdv A outer s H vs Q E hr h => ?_)
  · obtain ⟨a, C, bs, rfl, _⟩ := h
    rfl
  · obtain ⟨a, C, bs, rfl, hE, hC, hk, k⟩ := h
    have g_InvalidSignal := B.p0.g
    have g_InvalidDial := B.p1.g
    have g_InvalidTone := B.p2.g
    have g_InvalidBand := B.p3.g
    have g_InvalidNumber := B.p4.g
    have g_Impossible := B.p5.g
    have g_NothingToUndo := B.p6.g
    have g_InvalidCommand := B.p7.g
    have g_InvalidReceiver := B.t8.gC
    have g_InvalidLooks := B.t9.gC
    have g_InvalidSignals := B.t10.gC
    have g_InvalidSyntax := B.t11.gC
    refine ⟨_, (pss_cons (ps_set (i := 1) sc__law_kinds.nd rfl (Or.inl rfl) (pe_lst (pa_cons (pe_callB call_isX rfl m_isinstance (by decide +kernel) (pa_cons (pv 0) (pa_cons (pe_glob (v := V.ref _) rfl g_InvalidSignal rfl) pa_nil))) (pa_cons (pe_callB call_isX rfl m_isinstance (by decide +kernel) (pa_cons (pv 0) (pa_cons (pe_glob (v := V.ref _) rfl g_InvalidDial rfl) pa_nil))) (pa_cons (pe_callB call_isX rfl m_isinstance (by decide +kernel) (pa_cons (pv 0) (pa_cons (pe_glob (v := V.ref _) rfl g_InvalidTone rfl) pa_nil))) pa_nil)))))
  (pss_cons (ps_set (i := 1) sc__law_kinds.nd rfl (Or.inl rfl) (pe_op op_cat (pv 1) (pe_lst (pa_cons (pe_callB call_isX rfl m_isinstance (by decide +kernel) (pa_cons (pv 0) (pa_cons (pe_glob (v := V.ref _) rfl g_InvalidBand rfl) pa_nil))) (pa_cons (pe_callB call_isX rfl m_isinstance (by decide +kernel) (pa_cons (pv 0) (pa_cons (pe_glob (v := V.ref _) rfl g_InvalidNumber rfl) pa_nil))) (pa_cons (pe_callB call_isX rfl m_isinstance (by decide +kernel) (pa_cons (pv 0) (pa_cons (pe_glob (v := V.ref _) rfl g_Impossible rfl) pa_nil))) pa_nil))))))
  (pss_cons (ps_set (i := 1) sc__law_kinds.nd rfl (Or.inl rfl) (pe_op op_cat (pv 1) (pe_lst (pa_cons (pe_callB call_isX rfl m_isinstance (by decide +kernel) (pa_cons (pv 0) (pa_cons (pe_glob (v := V.ref _) rfl g_NothingToUndo rfl) pa_nil))) (pa_cons (pe_callB call_isX rfl m_isinstance (by decide +kernel) (pa_cons (pv 0) (pa_cons (pe_glob (v := V.ref _) rfl g_InvalidCommand rfl) pa_nil))) pa_nil)))))
  (pss_cons (ps_set (i := 1) sc__law_kinds.nd rfl (Or.inl rfl) (pe_op op_cat (pv 1) (pe_lst (pa_cons (pe_callB call_isX rfl m_isinstance (by decide +kernel) (pa_cons (pv 0) (pa_cons (pe_glob (v := V.ref _) rfl g_InvalidReceiver rfl) pa_nil))) (pa_cons (pe_callB call_isX rfl m_isinstance (by decide +kernel) (pa_cons (pv 0) (pa_cons (pe_glob (v := V.ref _) rfl g_InvalidLooks rfl) pa_nil))) pa_nil)))))
  (pss_one (ps_ret (pe_op op_cat (pv 1) (pe_lst (pa_cons (pe_callB call_isX rfl m_isinstance (by decide +kernel) (pa_cons (pv 0) (pa_cons (pe_glob (v := V.ref _) rfl g_InvalidSignals rfl) pa_nil))) (pa_cons (pe_callB call_isX rfl m_isinstance (by decide +kernel) (pa_cons (pv 0) (pa_cons (pe_glob (v := V.ref _) rfl g_InvalidSyntax rfl) pa_nil))) pa_nil)))))))))), ?_⟩
    walk_at "rd"
    refine go_isX hC hE (hk 0 (by decide)) ?_
    walk_at "rd"
    refine go_isX hC hE (hk 1 (by decide)) ?_
    walk_at "rd"
    refine go_isX hC hE (hk 2 (by decide)) ?_
    walk_at "rd"
    intro p1 n1
    have e1 := Ex.new (o := HO.lst [.bl (bs 0), .bl (bs 1), .bl (bs 2)]) n1
    walk_at "rd"
    refine go_isX hC (hE.ex e1) (hk 3 (by decide)) ?_
    walk_at "rd"
    refine go_isX hC (hE.ex e1) (hk 4 (by decide)) ?_
    walk_at "rd"
    refine go_isX hC (hE.ex e1) (hk 5 (by decide)) ?_
    walk_at "rd"
    intro p2 n2
    have e2 := Ex.new (o := HO.lst [.bl (bs 3), .bl (bs 4), .bl (bs 5)]) n2
    refine go_cat (e2 _ _ upd_same) upd_same (Nat.le_of_ble_eq_true rfl) fun p3 n3 => ?_
    have e3 := Ex.new (o := HO.lst ([V.bl (bs 0), .bl (bs 1), .bl (bs 2)] ++ [V.bl (bs 3), .bl (bs 4), .bl (bs 5)])) n3
    have f3 := (e1.trans e2).trans e3
    walk_at "rd"
    refine go_isX hC (hE.ex f3) (hk 6 (by decide)) ?_
    walk_at "rd"
    refine go_isX hC (hE.ex f3) (hk 7 (by decide)) ?_
    walk_at "rd"
    intro p4 n4
    have e4 := Ex.new (o := HO.lst [.bl (bs 6), .bl (bs 7)]) n4
    refine go_cat (e4 _ _ upd_same) upd_same (Nat.le_of_ble_eq_true rfl) fun p5 n5 => ?_
    have e5 := Ex.new (o := HO.lst (([V.bl (bs 0), .bl (bs 1), .bl (bs 2)] ++ [V.bl (bs 3), .bl (bs 4), .bl (bs 5)]) ++ [V.bl (bs 6), .bl (bs 7)])) n5
    have f5 := (f3.trans e4).trans e5
    walk_at "rd"
    refine go_isX hC (hE.ex f5) (hk 8 (by decide)) ?_
    walk_at "rd"
    refine go_isX hC (hE.ex f5) (hk 9 (by decide)) ?_
    walk_at "rd"
    intro p6 n6
    have e6 := Ex.new (o := HO.lst [.bl (bs 8), .bl (bs 9)]) n6
    refine go_cat (e6 _ _ upd_same) upd_same (Nat.le_of_ble_eq_true rfl) fun p7 n7 => ?_
    have e7 := Ex.new (o := HO.lst ((([V.bl (bs 0), .bl (bs 1), .bl (bs 2)] ++ [V.bl (bs 3), .bl (bs 4), .bl (bs 5)]) ++ [V.bl (bs 6), .bl (bs 7)]) ++ [V.bl (bs 8), .bl (bs 9)])) n7
    have f7 := (f5.trans e6).trans e7
    walk_at "rd"
    refine go_isX hC (hE.ex f7) (hk 10 (by decide)) ?_
    walk_at "rd"
    refine go_isX hC (hE.ex f7) (hk 11 (by decide)) ?_
    walk_at "rd"
    intro p8 n8
    have e8 := Ex.new (o := HO.lst [.bl (bs 10), .bl (bs 11)]) n8
    refine go_cat (e8 _ _ upd_same) upd_same (Nat.le_of_ble_eq_true rfl) fun p9 n9 => ?_
    have e9 := Ex.new (o := HO.lst (((([V.bl (bs 0), .bl (bs 1), .bl (bs 2)] ++ [V.bl (bs 3), .bl (bs 4), .bl (bs 5)]) ++ [V.bl (bs 6), .bl (bs 7)]) ++ [V.bl (bs 8), .bl (bs 9)]) ++ [V.bl (bs 10), .bl (bs 11)])) n9
    have f8 := f7.trans e8
    refine k _ _ ?_ (f8.trans e9) ?_
    · cases q : H p9 with
      | none => rfl
      | some o => rw [f8 _ _ q] at n9; cases n9
    · rw [upd_same]
      rfl
/-- a field of an error -/
def FldAt (H : Hp) (a C : Addr) (f : Str) (v : V) : Prop := ∃ dx fs, H a = some (exo a C (some dx)) ∧ H dx = some (exd dx fs) ∧ fs.lookup f = some v
theorem FldAt.ex {H H' : Hp} {a C : Addr} {f : Str} {v : V} (e : Ex H H') (h : FldAt H a C f v) : FldAt H' a C f v := let ⟨dx, fs, h1, h2, h3⟩ := h; ⟨dx, fs, e _ _ h1, e _ _ h2, h3⟩
theorem FldAt.err {H : Hp} {a C : Addr} {f : Str} {v : V} (h : FldAt H a C f v) : ErrAt H a C := let ⟨dx, fs, h1, h2, _⟩ := h; .inr ⟨dx, fs, h1, h2⟩
/-- the twelve errors that the law makes -/
structure Twelve (H : Hp) (cs as : Nat → Addr) (v : V) : Prop where
  at_ : ∀ i, i < 12 → ErrAt H (as i) (cs i)
  f8 : FldAt H (as 8) (cs 8) "index" v
  f9 : FldAt H (as 9) (cs 9) "index" v
  f10 : FldAt H (as 10) (cs 10) "index" v
  f11 : FldAt H (as 11) (cs 11) "word" v
theorem Twelve.ex {H H' : Hp} {cs as : Nat → Addr} {v : V} (e : Ex H H') (h : Twelve H cs as v) : Twelve H' cs as v := ⟨fun i hi => (h.at_ i hi).ex e, h.f8.ex e, h.f9.ex e, h.f10.ex e, h.f11.ex e⟩
def spMade (cs : Nat → Addr) : Sp := fun vs H Q _ => ∃ (x : Str) (v : V), vs = [.str x, v] ∧ ∀ (p : Addr) (H' : Hp) (as : Nat → Addr), Ex H H' → H' p = some (.lst ((List.range 12).map fun j => .ref (as j))) → Twelve H' cs as v → Q (.ref p) H'
theorem made_err {H G : Hp} {a C : Addr} (e : Ex (upd H a (ExO (.ref C) a)) G) : ErrAt G a C := .inl (e _ _ upd_same)
theorem made_fld {H : Hp} {d e C : Addr} {f : Str} {v : V} (hd : H d = none) (he : H e = none) (hne : d ≠ e) : FldAt (upd (upd H d (exd d [(f, v)])) e (exo e C (some d))) e C f v ∧ Ex H (upd (upd H d (exd d [(f, v)])) e (exo e C (some d))) :=
  ⟨⟨d, _, upd_same, by rw [upd_ne hne]; exact upd_same, by simp [List.lookup]⟩, (Ex.new hd).trans (Ex.new (by rw [upd_ne (Ne.symm hne)]; exact he))⟩
theorem go_errV {fld : Str} {C : Addr} {ta : TA} {σ : L2.St} {H : Hp} {Q : VK} (h : ta σ H fun vs H1 => ∃ v, vs = [v] ∧ ∀ d e, H1 d = none → H1 e = none → d ≠ e → Q (.ref e) (upd (upd H1 d (exd d [(fld, v)])) e (exo e C (some d)))) : tErrV fld C ta σ H Q := h
theorem go_one {v : V} {R : V → Prop} (h : R v) : ∃ u, [v] = [u] ∧ R u := ⟨v, rfl, h⟩
abbrev s__law_made : Stmt := top 18
theorem sc__law_made : FnScope ["text", "spot", "found"] ["text", "spot"] (defScope s__law_made) := ⟨rfl, rfl, rfl, by decide +kernel, rfl, by decide +kernel, by decide +kernel⟩
theorem ok_made {f : Addr} {fd : FuncData} (F : Fun K "_law_made" "_law_made" s__law_made f fd) (B : Tab P K mg cs fi T) :
    FnOk P w K mg base CX0 1 f fd ["text", "spot"] (spMade cs) := by
  refine F.ok sc__law_made (fun vs H Q E h => ?_) (fun cdv A outer s H vs Q E hr h => ?_)
  · obtain ⟨x, v, rfl, _⟩ := h
    rfl
  · obtain ⟨x, v, rfl, k⟩ := h
    have g_InvalidSignal := B.p0.g
    have x_InvalidSignal := B.p0.x
    have k_InvalidSignal := B.p0.k
    have g_InvalidDial := B.p1.g
    have x_InvalidDial := B.p1.x
    have k_InvalidDial := B.p1.k
    have g_InvalidTone := B.p2.g
    have x_InvalidTone := B.p2.x
    have k_InvalidTone := B.p2.k
    have g_InvalidBand := B.p3.g
    have x_InvalidBand := B.p3.x
    have k_InvalidBand := B.p3.k
    have g_InvalidNumber := B.p4.g
    have x_InvalidNumber := B.p4.x
    have k_InvalidNumber := B.p4.k
    have g_Impossible := B.p5.g
    have x_Impossible := B.p5.x
    have k_Impossible := B.p5.k
    have g_NothingToUndo := B.p6.g
    have x_NothingToUndo := B.p6.x
    have k_NothingToUndo := B.p6.k
    have g_InvalidCommand := B.p7.g
    have x_InvalidCommand := B.p7.x
    have k_InvalidCommand := B.p7.k
    have T_InvalidReceiver := B.t8
    have T_InvalidLooks := B.t9
    have T_InvalidSignals := B.t10
    have T_InvalidSyntax := B.t11
    refine ⟨_, (pss_cons (ps_set (i := 2) sc__law_made.nd rfl (Or.inl rfl) (pe_lst (pa_cons (pe_exc1 PySem.F.excBase_ValueError x_InvalidSignal g_InvalidSignal k_InvalidSignal rfl (pv 0)) (pa_cons (pe_exc1 PySem.F.excBase_ValueError x_InvalidDial g_InvalidDial k_InvalidDial rfl (pv 0)) (pa_cons (pe_exc1 PySem.F.excBase_ValueError x_InvalidTone g_InvalidTone k_InvalidTone rfl (pv 0)) (pa_cons (pe_exc1 PySem.F.excBase_ValueError x_InvalidBand g_InvalidBand k_InvalidBand rfl (pv 0)) (pa_cons (pe_exc1 PySem.F.excBase_ValueError x_InvalidNumber g_InvalidNumber k_InvalidNumber rfl (pv 0)) pa_nil)))))))
  (pss_cons (ps_set (i := 2) sc__law_made.nd rfl (Or.inl rfl) (pe_op op_cat (pv 2) (pe_lst (pa_cons (pe_exc1 PySem.F.excBase_ValueError x_Impossible g_Impossible k_Impossible rfl (pv 0)) (pa_cons (pe_exc1 PySem.F.excBase_ValueError x_NothingToUndo g_NothingToUndo k_NothingToUndo rfl (pv 0)) (pa_cons (pe_exc1 PySem.F.excBase_ValueError x_InvalidCommand g_InvalidCommand k_InvalidCommand rfl (pv 0)) pa_nil))))))
  (pss_one (ps_ret (pe_op op_cat (pv 2) (pe_lst (pa_cons (pe_errV T_InvalidReceiver hr (pa_cons (pv 1) pa_nil)) (pa_cons (pe_errV T_InvalidLooks hr (pa_cons (pv 1) pa_nil)) (pa_cons (pe_errV T_InvalidSignals hr (pa_cons (pv 1) pa_nil)) (pa_cons (pe_errV T_InvalidSyntax hr (pa_cons (pv 1) pa_nil)) pa_nil)))))))))), ?_⟩
    walk_at "rd"
    intro a0 m0
    have e0 := Ex.new (o := ExO (.ref (cs 0)) a0) m0
    walk_at "rd"
    intro a1 m1
    have e1 := Ex.new (o := ExO (.ref (cs 1)) a1) m1
    walk_at "rd"
    intro a2 m2
    have e2 := Ex.new (o := ExO (.ref (cs 2)) a2) m2
    walk_at "rd"
    intro a3 m3
    have e3 := Ex.new (o := ExO (.ref (cs 3)) a3) m3
    walk_at "rd"
    intro a4 m4
    have e4 := Ex.new (o := ExO (.ref (cs 4)) a4) m4
    walk_at "rd"
    intro p1 n1
    have d1 := Ex.new (o := HO.lst [.ref a0, .ref a1, .ref a2, .ref a3, .ref a4]) n1
    have r0 : ErrAt _ a0 (cs 0) := made_err ((((e1.trans e2).trans e3).trans e4).trans d1)
    have r1 : ErrAt _ a1 (cs 1) := made_err (((e2.trans e3).trans e4).trans d1)
    have r2 : ErrAt _ a2 (cs 2) := made_err ((e3.trans e4).trans d1)
    have r3 : ErrAt _ a3 (cs 3) := made_err (e4.trans d1)
    have r4 : ErrAt _ a4 (cs 4) := made_err d1
    have E1 := ((((e0.trans e1).trans e2).trans e3).trans e4).trans d1
    walk_at "rd"
    intro a5 m5
    have e5 := Ex.new (o := ExO (.ref (cs 5)) a5) m5
    walk_at "rd"
    intro a6 m6
    have e6 := Ex.new (o := ExO (.ref (cs 6)) a6) m6
    walk_at "rd"
    intro a7 m7
    have e7 := Ex.new (o := ExO (.ref (cs 7)) a7) m7
    walk_at "rd"
    intro p2 n2
    have d2 := Ex.new (o := HO.lst [.ref a5, .ref a6, .ref a7]) n2
    have u2 := ((e5.trans e6).trans e7).trans d2
    refine go_cat (u2 _ _ upd_same) upd_same (Nat.le_of_ble_eq_true rfl) fun p3 n3 => ?_
    have d3 := Ex.new (o := HO.lst ([V.ref a0, .ref a1, .ref a2, .ref a3, .ref a4] ++ [V.ref a5, .ref a6, .ref a7])) n3
    have r5 : ErrAt _ a5 (cs 5) := made_err (((e6.trans e7).trans d2).trans d3)
    have r6 : ErrAt _ a6 (cs 6) := made_err ((e7.trans d2).trans d3)
    have r7 : ErrAt _ a7 (cs 7) := made_err (d2.trans d3)
    have E2 := u2.trans d3
    walk_at "rd"
    refine go_errV ?_
    walk_at "rd"
    intro b8 a8 m8 m8' ne8
    obtain ⟨q8, e8⟩ := made_fld (C := cs 8) (f := "index") (v := v) m8 m8' ne8
    walk_at "rd"
    refine go_errV ?_
    walk_at "rd"
    intro b9 a9 m9 m9' ne9
    obtain ⟨q9, e9⟩ := made_fld (C := cs 9) (f := "index") (v := v) m9 m9' ne9
    walk_at "rd"
    refine go_errV ?_
    walk_at "rd"
    intro b10 a10 m10 m10' ne10
    obtain ⟨q10, e10⟩ := made_fld (C := cs 10) (f := "index") (v := v) m10 m10' ne10
    walk_at "rd"
    refine go_errV ?_
    walk_at "rd"
    intro b11 a11 m11 m11' ne11
    obtain ⟨q11, e11⟩ := made_fld (C := cs 11) (f := "word") (v := v) m11 m11' ne11
    walk_at "rd"
    intro p4 n4
    have d4 := Ex.new (o := HO.lst [.ref a8, .ref a9, .ref a10, .ref a11]) n4
    have u4 := (((e8.trans e9).trans e10).trans e11).trans d4
    refine go_cat (u4 _ _ upd_same) upd_same (Nat.le_of_ble_eq_true rfl) fun p5 n5 => ?_
    have d5 := Ex.new (o := HO.lst (([V.ref a0, .ref a1, .ref a2, .ref a3, .ref a4] ++ [V.ref a5, .ref a6, .ref a7]) ++ [V.ref a8, .ref a9, .ref a10, .ref a11])) n5
    have E3 := u4.trans d5
    have r8 := q8.ex ((((e9.trans e10).trans e11).trans d4).trans d5)
    have r9 := q9.ex (((e10.trans e11).trans d4).trans d5)
    have r10 := q10.ex ((e11.trans d4).trans d5)
    have r11 := q11.ex (d4.trans d5)
    have E23 := E2.trans E3
    refine k p5 _ (fun i => [a0, a1, a2, a3, a4, a5, a6, a7, a8, a9, a10, a11].getD i 0) ((E1.trans E2).trans E3) upd_same ⟨fun i hi => ?_, r8, r9, r10, r11⟩
    match i, hi with
    | 0, _ => exact r0.ex E23
    | 1, _ => exact r1.ex E23
    | 2, _ => exact r2.ex E23
    | 3, _ => exact r3.ex E23
    | 4, _ => exact r4.ex E23
    | 5, _ => exact r5.ex E3
    | 6, _ => exact r6.ex E3
    | 7, _ => exact r7.ex E3
    | 8, _ => exact r8.err
    | 9, _ => exact r9.err
    | 10, _ => exact r10.err
    | 11, _ => exact r11.err
end
end Kx

set_option Elab.async false
set_option linter.all false
set_option maxRecDepth 100000
set_option maxHeartbeats 2000000

namespace Kx
open PySem PySem.Spec PyProof.Rows L2 HX
open Evl (Ex)
local macro_rules | `(tactic| walk_at "side") => `(tactic| first | assumption | ((try dsimp only); first | assumption | decide +kernel | omega | exact ⟨by decide, by decide⟩ | (left; decide) | (left; omega) | (refine Or.inl ⟨?_, ?_⟩ <;> omega) | (refine Or.inr ⟨?_, ?_⟩ <;> omega)))
local macro_rules | `(tactic| walk_at "heap") => `(tactic| first | assumption | exact upd_same | exact Or.inl (by assumption) | exact Or.inl upd_same)
local macro_rules | `(tactic| walk_at "item") => `(tactic| first | exact rfl | exact atI_nat (j := 0) rfl | exact atI_nat (j := 1) rfl | exact atI_nat (j := 2) rfl | assumption)
local macro_rules | `(tactic| walk_at "rd") => `(tactic| repeat (first
  | ((with_reducible refine' go_var ?hv ?_); (case hv => exact rfl))
  | with_reducible refine' go_c ?_
  | with_reducible refine' go_op ?_
  | with_reducible refine' go_seq ?_
  | with_reducible refine' go_asg ?_
  | with_reducible refine' go_name ?_
  | with_reducible refine' go_cons ?_
  | with_reducible refine' go_nil ?_
  | with_reducible refine' go_cb ?_
  | with_reducible refine' go_call ?_
  | with_reducible refine' go_ifS ?_
  | with_reducible refine' go_test ?_
  | with_reducible refine' go_bl ?_
  | with_reducible refine' go_ret ?_
  | with_reducible refine' go_I0 ?_
  | ((with_reducible refine' go_I ?cc ?_); (case cc => walk_at "side"))
  | ((with_reducible refine' go_ixL ?hh ?hk ?_); (case hh => walk_at "heap"); (case hk => walk_at "item"))
  | ((with_reducible refine' go_ixT ?hh ?hk ?_); (case hh => walk_at "heap"); (case hk => walk_at "item"))
  | ((with_reducible refine' go_lenL ?hh ?_); (case hh => walk_at "heap"))
  | ((with_reducible refine' go_lenT ?hh ?_); (case hh => walk_at "heap"))
  | ((with_reducible refine' go_setL ?hh ?hk ?_); (case hh => walk_at "heap"); (case hk => walk_at "item"))
  | with_reducible refine' go_abs ?_
  | with_reducible refine' go_max ?_
  | with_reducible refine' go_min ?_
  | with_reducible refine' go_int ?_
  | with_reducible refine' go_intB ?_
  | (with_reducible refine' go_eq rfl ?_)
  | (with_reducible refine' go_ne rfl ?_)
  | with_reducible refine' go_isN ?_
  | with_reducible refine' go_notN ?_
  | with_reducible refine' go_if ?_
  | with_reducible refine' go_sub ?_
  | with_reducible refine' go_par ?_
  | with_reducible refine' go_sl ?_
  | with_reducible refine' go_part ?_
  | with_reducible refine' go_pint ?_
  | with_reducible refine' go_nopart ?_
  | ((with_reducible refine' go_lenL ?hh ?_); (case hh => walk_at "heap"))
  | ((with_reducible refine' go_lenT ?hh ?_); (case hh => walk_at "heap"))
  | ((with_reducible refine' go_lenS ?hh ?_); (case hh => assumption))
  | with_reducible refine' go_gcons ?_
  | with_reducible refine' go_gnil ?_
  | with_reducible refine' go_kw ?_
  | with_reducible refine' go_par2 ?_
  | with_reducible refine' go_next ?_
  | with_reducible refine' go_drop ?_
  | with_reducible refine' go_and ?_
  | with_reducible refine' go_or ?_
  | with_reducible refine' go_not ?_
  | with_reducible refine' go_B ?_
  | with_reducible refine' go_andV ?_
  | with_reducible refine' go_orV ?_
  | with_reducible refine' go_notV ?_
  | with_reducible refine' go_chain ?_
  | with_reducible refine' go_un ?_
  | with_reducible refine' go_U ?_
  | with_reducible refine' go_bm ?_
  | with_reducible refine' go_tup ?_
  | with_reducible refine' go_lst ?_
  | with_reducible refine' go_forR1 ?_
  | with_reducible refine' go_forR2 ?_
  | with_reducible refine' go_forL ?_
  | with_reducible refine' go_forT ?_
  | with_reducible refine' go_forE ?_
  | with_reducible refine' go_lcR1 ?_
  | with_reducible refine' go_lcL ?_
  | with_reducible refine' go_lcT ?_
  | ((with_reducible refine' go_tyL ?hh ?_); (case hh => walk_at "heap"))
  | ((with_reducible refine' go_new ?hz ?_); (case hz => exact Nat.le_of_ble_eq_true rfl))
  | (with_reducible refine' ⟨_, rfl, ?_⟩)
  ))
--MACEND
theorem go_yes {σ : L2.St} {H : Hp} {QT : Bool → Hp → Prop} (h : QT true H) : tYes σ H QT := h
theorem go_errF {K : PySem.W.Frag} {f : Str} {te : TE} {σ : L2.St} {H : Hp} {Q : VK} (h : te σ H fun x H1 => ∃ (a C dx : Addr) (fs : List (Str × V)) (v : V), x = .ref a ∧ FldC K C f ∧ H1 a = some (exo a C (some dx)) ∧ H1 dx = some (exd dx fs) ∧ fs.lookup f = some v ∧ Q v H1) : tErrF K f te σ H Q := h
theorem go_fld {K : PySem.W.Frag} {f : Str} {H : Hp} {R : V → Prop} {a C : Addr} {v : V} (T : FldC K C f) (h : FldAt H a C f v) (q : R v) :
    ∃ (a' C dx : Addr) (fs : List (Str × V)) (v : V), V.ref a = .ref a' ∧ FldC K C f ∧ H a' = some (exo a' C (some dx)) ∧ H dx = some (exd dx fs) ∧ fs.lookup f = some v ∧ R v :=
  let ⟨dx, fs, h1, h2, h3⟩ := h; ⟨a, C, dx, fs, v, rfl, T, h1, h2, h3, q⟩
def spFields (cs : Nat → Addr) : Sp := fun vs H Q _ => ∃ (p : Addr) (v : V) (as : Nat → Addr) (d : PyData), vs = [.ref p, v] ∧ H p = some (.lst ((List.range 12).map fun j => .ref (as j))) ∧ Twelve H cs as v ∧ (∀ G, Dq G v d) ∧ Fine 600 0 d ∧ ∀ H', Ex H H' → Q (.bl true) H'
section
variable {P : Program} {w : World} {K : PySem.W.Frag} {mg : Str → Option Value} {base : Heap} {cs fi : Nat → Addr} {T : Addr}
abbrev s__law_fields_right : Stmt := top 19
theorem sc__law_fields_right : FnScope ["made", "spot", "told", "one"] ["made", "spot"] (defScope s__law_fields_right) := ⟨rfl, rfl, rfl, by decide +kernel, rfl, by decide +kernel, by decide +kernel⟩
theorem ok_fields {f : Addr} {fd : FuncData} (F : Fun K "_law_fields_right" "_law_fields_right" s__law_fields_right f fd) (B : Tab P K mg cs fi T) (m_repr : mg "repr" = none) :
    FnG P w K mg base CX0 1 f fd ["made", "spot"] (spFields cs) := by
  refine okG F sc__law_fields_right (fun vs H Q E h => ?_) (fun cdv A outer s H vs Q E hgd hr h => ?_)
  · obtain ⟨p, v, as, d, rfl, _⟩ := h
    rfl
  · obtain ⟨p, v, as, d, rfl, hp, tw, hv, hf, k⟩ := h
    have T_InvalidReceiver := B.t8
    have T_InvalidLooks := B.t9
    have T_InvalidSignals := B.t10
    have T_InvalidSyntax := B.t11
    have F8 := FldC.of B.t8
    have F9 := FldC.of B.t9
    have F10 := FldC.of B.t10
    have F11 := FldC.of B.t11
    refine ⟨_, PSs.nox ((pss_cons (ps_set (i := 2) sc__law_fields_right.nd rfl (Or.inl rfl) (pe_op op_cat (pe_lc (own := [("one", 3)]) (g := gName 3) (by rfl) (sc__law_fields_right).nd (pi_list (pe_slice sl_list (pv 0) (po_some pe_int) (po_some pe_int))) (blkOk_by (own := [("one", 3)]) (N := ["made", "spot", "told", "one"]) (sc := defScope s__law_fields_right) (by decide +kernel)) (fun _ _ _ _ _ => pg_name (i := 3) (sc__law_fields_right).nd rfl (Or.inl rfl)) (fun _ _ _ _ _ => pts_nil) (fun _ _ _ _ _ => (pe_errFK (K := K) rfl (pv 3)))) (pe_lst (pa_cons (pe_errFK (K := K) rfl (pe_ix ix_list (pv 0) pe_int (fun _ _ => rfl))) (pa_cons (pe_errFK (K := K) rfl (pe_errK T_InvalidReceiver hr (pk_cons (pv 1) pk_nil))) pa_nil)))))
  (pss_cons (ps_set (i := 2) sc__law_fields_right.nd rfl (Or.inl rfl) (pe_op op_cat (pv 2) (pe_lst (pa_cons (pe_errFK (K := K) rfl (pe_errK T_InvalidLooks hr (pk_cons (pv 1) pk_nil))) (pa_cons (pe_errFK (K := K) rfl (pe_errK T_InvalidSignals hr (pk_cons (pv 1) pk_nil))) (pa_cons (pe_errFK (K := K) rfl (pe_errK T_InvalidSyntax hr (pk_cons (pv 1) pk_nil))) pa_nil))))))
  (pss_one (ps_ret (pe_cmpR op_eq (pe_callB (call_repr hgd hr.units) rfl m_repr (by decide +kernel) (pa_cons (pv 2) pa_nil)) (pe_callB (call_repr hgd hr.units) rfl m_repr (by decide +kernel) (pa_cons (pe_op op_rep (pe_lst (pa_cons (pv 1) pa_nil)) pe_int) pa_nil)) (nomark _))))))), ?_⟩
    walk_at "rd"
    refine go_slL (.inl hp) fun q nq => ?_
    have eq1 := Ex.new (o := HO.lst (cutV ((List.range 12).map fun j => V.ref (as j)) (some 8) (some 11))) nq
    have hc : cutV ((List.range 12).map fun j => V.ref (as j)) (some 8) (some 11) = [.ref (as 8), .ref (as 9), .ref (as 10)] := rfl
    rw [hc] at eq1 ⊢
    refine ⟨q, rfl, ⟨_, .inl (.inl upd_same)⟩, ?_⟩
    have tw1 := tw.ex eq1
    generalize hG : upd H q (.lst [.ref (as 8), .ref (as 9), .ref (as 10)]) = G at *
    have hq : G q = some (.lst [.ref (as 8), .ref (as 9), .ref (as 10)]) := by rw [← hG]; exact upd_same
    refine run_lcL [.ref (as 8), .ref (as 9), .ref (as 10)] (fun D i G' => G' D = some (.lst (List.replicate i v)) ∧ Ex G G' ∧ G D = none) ?_ ?_ ?_ ?_
    · exact fun D hD => ⟨upd_same, Ex.new hD, hD⟩
    · rintro D i G' _ ⟨_, e, _⟩
      exact .inl (Evl.ex_rd e (.inl hq))
    · rintro D i x G' hx ⟨hD, e, nD⟩
      have tw2 := tw1.ex e
      have fin : ∀ (G'' : Hp), Ex G' G'' → ∃ acc, G'' D = some (.lst acc) ∧ acc.length < sizeLine ∧ upd G'' D (.lst (acc ++ [v])) D = some (.lst (List.replicate (i + 1) v)) ∧ Ex G (upd G'' D (.lst (acc ++ [v]))) ∧ G D = none := fun G'' e' => by
        refine ⟨_, e' _ _ hD, ?_, ?_, Ex.mut (e.trans e') nD, nD⟩
        · rw [List.length_replicate]
          have : i < 3 := (List.getElem?_eq_some_iff.mp hx).1
          exact Nat.lt_of_lt_of_le (by omega : i < 4) (by decide)
        · rw [upd_same, List.replicate_succ']
      have hi : i < 3 := (List.getElem?_eq_some_iff.mp hx).1
      match i, hi with
      | 0, _ =>
        obtain rfl : V.ref (as 8) = x := by simpa using hx
        walk_at "rd"
        refine ⟨rfl, go_yes ?_⟩
        refine iteT ?_
        refine go_errF ?_
        walk_at "rd"
        refine go_fld F8 tw2.f8 ?_
        exact fin _ (Ex.refl _)
      | 1, _ =>
        obtain rfl : V.ref (as 9) = x := by simpa using hx
        walk_at "rd"
        refine ⟨rfl, go_yes ?_⟩
        refine iteT ?_
        refine go_errF ?_
        walk_at "rd"
        refine go_fld F9 tw2.f9 ?_
        exact fin _ (Ex.refl _)
      | 2, _ =>
        obtain rfl : V.ref (as 10) = x := by simpa using hx
        walk_at "rd"
        refine ⟨rfl, go_yes ?_⟩
        refine iteT ?_
        refine go_errF ?_
        walk_at "rd"
        refine go_fld F10 tw2.f10 ?_
        exact fin _ (Ex.refl _)
    · rintro D G1 nD ⟨hD, e1, _⟩
      have tw2 := tw1.ex e1
      have E1 := eq1.trans e1
      have hp1 := E1 _ _ hp
      have new : ∀ {G0 : Hp} {C b a : Addr} {f : Str}, G0 b = none → G0 a = none → b ≠ a → FldAt (upd (upd G0 b (exd b [(f, v)])) a (exo a C (some b))) a C f v ∧ Ex G0 (upd (upd G0 b (exd b [(f, v)])) a (exo a C (some b))) := made_fld
      walk_at "rd"
      refine go_errF ?_
      walk_at "rd"
      try refine go_ixL (.inl hp1) (atI_nat (j := 11) rfl) ?_
      refine go_fld F11 tw2.f11 ?_
      walk_at "rd"
      refine go_errF ?_
      refine go_errV ?_
      walk_at "rd"
      intro b8 a8 m8 m8' ne8
      obtain ⟨q8, e8⟩ := new (C := cs 8) (f := "index") m8 m8' ne8
      refine go_fld F8 q8 ?_
      walk_at "rd"
      intro l1 n1
      have x1 := Ex.new (o := HO.lst [v, v]) n1
      refine go_cat ((e8.trans x1) _ _ hD) upd_same (Nat.le_of_ble_eq_true rfl) fun l2 n2 => ?_
      rw [show List.replicate [V.ref (as 8), .ref (as 9), .ref (as 10)].length v ++ [v, v] = [v, v, v, v, v] from rfl] at *
      have x2 := Ex.new (o := HO.lst [v, v, v, v, v]) n2
      have E2 := (((E1.trans e8).trans x1).trans x2)
      walk_at "rd"
      refine go_errF ?_
      refine go_errV ?_
      walk_at "rd"
      intro b9 a9 m9 m9' ne9
      obtain ⟨q9, e9⟩ := new (C := cs 9) (f := "index") m9 m9' ne9
      refine go_fld F9 q9 ?_
      walk_at "rd"
      refine go_errF ?_
      refine go_errV ?_
      walk_at "rd"
      intro b10 a10 m10 m10' ne10
      obtain ⟨q10, e10⟩ := new (C := cs 10) (f := "index") m10 m10' ne10
      refine go_fld F10 q10 ?_
      walk_at "rd"
      refine go_errF ?_
      refine go_errV ?_
      walk_at "rd"
      intro b11 a11 m11 m11' ne11
      obtain ⟨q11, e11⟩ := new (C := cs 11) (f := "word") m11 m11' ne11
      refine go_fld F11 q11 ?_
      walk_at "rd"
      intro l3 n3
      have x3 := Ex.new (o := HO.lst [v, v, v]) n3
      have x9 := ((e9.trans e10).trans e11).trans x3
      refine go_cat (x9 _ _ upd_same) upd_same (Nat.le_of_ble_eq_true rfl) fun l4 n4 => ?_
      rw [show [v, v, v, v, v] ++ [v, v, v] = List.replicate 8 v from rfl] at *
      have x4 := Ex.new (o := HO.lst (List.replicate 8 v)) n4
      have E4 := (E2.trans x9).trans x4
      have fine8 : Fine (8 * 601) 1 (.list (List.replicate 8 d)) := by
        have := Fine.list (w := 600) (k := 0) (l := List.replicate 8 d) (fun x hx => by rw [List.eq_of_mem_replicate hx]; exact hf)
        simpa using this
      have all8 : ∀ G, DqAll G (List.replicate 8 v) (List.replicate 8 d) := fun G => DqAll.rep (hv G) 8
      walk_at "rd"
      refine go_repr (.lst (.inl upd_same) (all8 _)) fine8 (by decide) (by decide) ?_
      walk_at "rd"
      intro l5 n5
      have x5 := Ex.new (o := HO.lst [v]) n5
      walk_at "rd"
      refine go_rep (xs := [v]) (k := 8) upd_same (by decide) (Nat.le_of_ble_eq_true rfl) fun l6 n6 => ?_
      rw [show (List.replicate (8 : Int).toNat [v]).flatten = List.replicate 8 v from rfl] at *
      walk_at "rd"
      refine go_repr (.lst (.inl upd_same) (all8 _)) fine8 (by decide) (by decide) ?_
      walk_at "rd"
      have x6 := Ex.new (o := HO.lst (List.replicate 8 v)) n6
      have := k _ ((E4.trans x5).trans x6)
      simpa using this
end
end Kx

set_option Elab.async false
set_option linter.all false
set_option maxRecDepth 100000
set_option maxHeartbeats 2000000

namespace Kx
open PySem PySem.Spec PyProof.Rows L2 HX
open Evl (Ex)
local macro_rules | `(tactic| walk_at "side") => `(tactic| first | assumption | ((try dsimp only); first | assumption | decide +kernel | omega | exact ⟨by decide, by decide⟩ | (left; decide) | (left; omega) | (refine Or.inl ⟨?_, ?_⟩ <;> omega) | (refine Or.inr ⟨?_, ?_⟩ <;> omega)))
local macro_rules | `(tactic| walk_at "heap") => `(tactic| first | assumption | exact upd_same | exact Or.inl (by assumption) | exact Or.inl upd_same)
local macro_rules | `(tactic| walk_at "item") => `(tactic| first | exact rfl | exact atI_nat (j := 0) rfl | exact atI_nat (j := 1) rfl | exact atI_nat (j := 2) rfl | assumption)
local macro_rules | `(tactic| walk_at "rd") => `(tactic| repeat (first
  | ((with_reducible refine' go_var ?hv ?_); (case hv => exact rfl))
  | with_reducible refine' go_c ?_
  | with_reducible refine' go_op ?_
  | with_reducible refine' go_seq ?_
  | with_reducible refine' go_asg ?_
  | with_reducible refine' go_name ?_
  | with_reducible refine' go_cons ?_
  | with_reducible refine' go_nil ?_
  | with_reducible refine' go_cb ?_
  | with_reducible refine' go_call ?_
  | with_reducible refine' go_ifS ?_
  | with_reducible refine' go_test ?_
  | with_reducible refine' go_bl ?_
  | with_reducible refine' go_ret ?_
  | with_reducible refine' go_I0 ?_
  | ((with_reducible refine' go_I ?cc ?_); (case cc => walk_at "side"))
  | ((with_reducible refine' go_ixL ?hh ?hk ?_); (case hh => walk_at "heap"); (case hk => walk_at "item"))
  | ((with_reducible refine' go_ixT ?hh ?hk ?_); (case hh => walk_at "heap"); (case hk => walk_at "item"))
  | ((with_reducible refine' go_lenL ?hh ?_); (case hh => walk_at "heap"))
  | ((with_reducible refine' go_lenT ?hh ?_); (case hh => walk_at "heap"))
  | ((with_reducible refine' go_setL ?hh ?hk ?_); (case hh => walk_at "heap"); (case hk => walk_at "item"))
  | with_reducible refine' go_abs ?_
  | with_reducible refine' go_max ?_
  | with_reducible refine' go_min ?_
  | with_reducible refine' go_int ?_
  | with_reducible refine' go_intB ?_
  | (with_reducible refine' go_eq rfl ?_)
  | (with_reducible refine' go_ne rfl ?_)
  | with_reducible refine' go_isN ?_
  | with_reducible refine' go_notN ?_
  | with_reducible refine' go_if ?_
  | with_reducible refine' go_sub ?_
  | with_reducible refine' go_par ?_
  | with_reducible refine' go_sl ?_
  | with_reducible refine' go_part ?_
  | with_reducible refine' go_pint ?_
  | with_reducible refine' go_nopart ?_
  | ((with_reducible refine' go_lenL ?hh ?_); (case hh => walk_at "heap"))
  | ((with_reducible refine' go_lenT ?hh ?_); (case hh => walk_at "heap"))
  | ((with_reducible refine' go_lenS ?hh ?_); (case hh => assumption))
  | with_reducible refine' go_gcons ?_
  | with_reducible refine' go_gnil ?_
  | with_reducible refine' go_kw ?_
  | with_reducible refine' go_par2 ?_
  | with_reducible refine' go_next ?_
  | with_reducible refine' go_drop ?_
  | with_reducible refine' go_and ?_
  | with_reducible refine' go_or ?_
  | with_reducible refine' go_not ?_
  | with_reducible refine' go_B ?_
  | with_reducible refine' go_andV ?_
  | with_reducible refine' go_orV ?_
  | with_reducible refine' go_notV ?_
  | with_reducible refine' go_chain ?_
  | with_reducible refine' go_un ?_
  | with_reducible refine' go_U ?_
  | with_reducible refine' go_bm ?_
  | with_reducible refine' go_tup ?_
  | with_reducible refine' go_lst ?_
  | with_reducible refine' go_forR1 ?_
  | with_reducible refine' go_forR2 ?_
  | with_reducible refine' go_forL ?_
  | with_reducible refine' go_forT ?_
  | with_reducible refine' go_forE ?_
  | with_reducible refine' go_lcR1 ?_
  | with_reducible refine' go_lcL ?_
  | with_reducible refine' go_lcT ?_
  | ((with_reducible refine' go_tyL ?hh ?_); (case hh => walk_at "heap"))
  | ((with_reducible refine' go_new ?hz ?_); (case hz => exact Nat.le_of_ble_eq_true rfl))
  | (with_reducible refine' ⟨_, rfl, ?_⟩)
  ))
--MACEND
theorem ex_of_jx {j : Addr} {H G : Hp} (e : Jx [j] H G) (h : H j = none) : Ex H G := fun b o q => by
  have hb : b ≠ j := fun z => by rw [z, h] at q; cases q
  exact e.get q (nin1 hb)
theorem menu_int (xs : List Int) (lo hi : Int) {u : Int} (h0 : 0 ≤ u) (h1 : u < xs.length) (hb : ∀ x ∈ xs, lo ≤ x ∧ x ≤ hi) : ∃ x, atI (xs.map V.int) u = some (.int x) ∧ lo ≤ x ∧ x ≤ hi := by
  obtain ⟨k, rfl⟩ : ∃ k : Nat, u = k := ⟨u.toNat, by omega⟩
  have hk : k < xs.length := by omega
  exact ⟨xs[k], atI_nat (by rw [List.getElem?_map, List.getElem?_eq_getElem hk]; rfl), hb _ (List.getElem_mem hk)⟩
theorem dq_bools (H : Hp) : ∀ l : List Bool, DqAll H (l.map V.bl) (l.map PyData.bool)
  | [] => .nil
  | z :: l => .cons (.bl z) (dq_bools H l)
theorem lay_bools : ∀ l : List Bool, PyData.canLayAll0 (l.map PyData.bool) = true ∧ PyData.depthAll (l.map PyData.bool) = 0
  | [] => ⟨rfl, rfl⟩
  | z :: l => by
    obtain ⟨h1, h2⟩ := lay_bools l
    exact ⟨by rw [List.map_cons, PyData.canLayAll0, h1]; rfl, by rw [List.map_cons, PyData.depthAll, h2]; rfl⟩
theorem shaped_bools (l : List Bool) : SeqAt.shaped (.list (l.map PyData.bool)) = true := by
  obtain ⟨h1, h2⟩ := lay_bools l
  unfold SeqAt.shaped
  rw [Bool.and_eq_true]
  refine ⟨by simpa [PyData.canLay0] using h1, decide_eq_true ?_⟩
  rw [PyData.depth, h2]
  decide
/-- two lists of the same bools -/
theorem go_neB {K : PySem.W.Frag} {H : Hp} {Q : VK} {p q : Addr} (l : List Bool) (hp : H p = some (.lst (l.map V.bl))) (hq : H q = some (.lst (l.map V.bl))) (k : Q (.bl false) H) : rNeD K (.ref p) (.ref q) H Q :=
  go_neD (.lst (.inl hp) (dq_bools H l)) (.lst (.inl hq) (dq_bools H l)) (shaped_bools l) (shaped_bools l) (by rw [SeqAt.eqv_refl _ (by obtain ⟨h1, _⟩ := lay_bools l; simpa [PyData.canLay0] using h1)]; exact k)
theorem go_join {to te : TE} {r : V → List V → Hp → VK → Prop} {σ : L2.St} {H : Hp} {Q : VK} (h : to σ H fun x H1 => (∃ a, x = .str a) ∧ te σ H1 fun y H2 => r x [y] H2 Q) : tM1 r to te σ H Q := h
theorem sum_ones : ∀ {ys : List Str}, (∀ y ∈ ys, y.length = 1) → (ys.map (·.length)).sum = ys.length
  | [], _ => rfl
  | y :: ys, h => by
    rw [List.map_cons, List.sum_cons, sum_ones fun z hz => h z (List.mem_cons_of_mem _ hz), h y List.mem_cons_self, List.length_cons]
    omega
theorem jar_ex {n : Nat} {H H' : Hp} {j : Addr} (e : Ex H H') (h : JarAt n H j) : JarAt n H' j := by
  obtain ⟨a, b, c, h1, h2⟩ := h
  exact ⟨a, b, c, e _ _ h1, h2⟩
def spLaw (K : PySem.W.Frag) : Sp := fun vs H Q _ => ∃ (a : Addr) (ns : List Int), vs = [.ref a] ∧ ns.length ≤ 100000 ∧ SqL K H a (ns.map V.int) ∧ ∀ H', Q (.bl true) H'
section
variable {P : Program} {w : World} {K : PySem.W.Frag} {mg : Str → Option Value} {base : Heap} {cs fi : Nat → Addr} {T : Addr}
abbrev s_law : Stmt := top 20
theorem sc_law : FnScope ["script", "at", "tank", "text", "turn", "spot", "made", "rank", "one", "other"] ["script"] (defScope s_law) := ⟨rfl, rfl, rfl, by decide +kernel, rfl, by decide +kernel, by decide +kernel⟩
theorem ok_law {f : Addr} {fd : FuncData} (F : Fun K "law" "law" s_law f fd) (B : Tab P K mg cs fi T) (m_range : mg "range" = none) (m_max : mg "max" = none) (m_min : mg "min" = none) (m_len : mg "len" = none) (m_enumerate : mg "enumerate" = none) (m_isinstance : mg "isinstance" = none) (m_ValueError : mg "ValueError" = none)
    (h__law_tank : Has P w K mg base 1 "_law_tank" (spJar K)) (h__law_tap : Has P w K mg base 1 "_law_tap" spPick) (h__law_kinds : Has P w K mg base 1 "_law_kinds" (spKinds K cs)) (h__law_made : Has P w K mg base 1 "_law_made" (spMade cs))
    (h__law_fields_right : HasG P w K mg base 1 "_law_fields_right" (spFields cs)) :
    FnG P w K mg base CX0 2 f fd ["script"] (spLaw K) := by
  refine okG F sc_law (fun vs H Q E h => ?_) (fun cdv A outer s H vs Q E hgd hr h => ?_)
  · obtain ⟨a, ns, rfl, _⟩ := h
    rfl
  · obtain ⟨a, ns, rfl, hlen, hS, k⟩ := h
    have g_ToneError := B.pT.g
    have x_ToneError := B.pT.x
    have k_ToneError := B.pT.k
    refine ⟨_, PSs.nox ((pss_cons (ps_for PassesOwn.never rfl (pi_range1 (by rfl) m_range (pa_cons (pe_callB (call_maxQ rfl) rfl m_max boot_max (pa_cons pe_int (pa_cons (pe_callB (call_minQ rfl) rfl m_min boot_min (pa_cons pe_int (pa_cons (pe_callB call_lenQ rfl m_len PySem.boot_len (pa_cons (pv 0) pa_nil)) pa_nil))) pa_nil))) pa_nil)) (pg_name (i := 1) sc_law.nd rfl (Or.inl rfl))
  (pss_cons (ps_set (i := 2) sc_law.nd rfl (Or.inr rfl) (pe_hs h__law_tank hr rfl (pa_cons (pv 0) (pa_cons (pv 1) pa_nil))))
  (pss_cons (ps_set (i := 3) sc_law.nd rfl (Or.inl rfl) (pe_join pe_str (pe_lc (own := [("turn", 4)]) (g := gName 4) (by rfl) (sc_law).nd (pi_range1 (by rfl) m_range (pa_cons (pe_hs h__law_tap hr rfl (pa_cons (pv 2) (pa_cons pe_int pa_nil))) pa_nil)) (blkOk_by (own := [("turn", 4)]) (N := ["script", "at", "tank", "text", "turn", "spot", "made", "rank", "one", "other"]) (sc := defScope s_law) (by decide +kernel)) (fun _ _ _ _ _ => pg_name (i := 4) (sc_law).nd rfl (Or.inl rfl)) (fun _ _ _ _ _ => pts_nil) (fun _ _ _ _ _ => (pe_ix ix_str pe_str (pe_hs h__law_tap hr rfl (pa_cons (pv 2) (pa_cons pe_int pa_nil))) (fun _ _ => rfl))))))
  (pss_cons (ps_set (i := 5) sc_law.nd rfl (Or.inl rfl) (pe_ix ix_list (pe_lst (pa_cons pe_non (pa_cons pe_int (pa_cons (pe_hs h__law_tap hr rfl (pa_cons (pv 2) (pa_cons pe_int pa_nil))) (pa_cons (pe_op op_powW pe_int pe_int) pa_nil))))) (pe_hs h__law_tap hr rfl (pa_cons (pv 2) (pa_cons pe_int pa_nil))) (fun _ _ => rfl)))
  (pss_cons (ps_set (i := 6) sc_law.nd rfl (Or.inl rfl) (pe_hs h__law_made hr rfl (pa_cons (pv 3) (pa_cons (pv 5) pa_nil))))
  (pss_cons (ps_for PassesOwn.never rfl (pi_enum (by rfl) m_enumerate (pa_cons (pv 6) pa_nil)) (pg_tup (by rfl) (pgs_cons (pg_name (i := 7) sc_law.nd rfl (Or.inr rfl)) (pgs_cons (pg_name (i := 8) sc_law.nd rfl (Or.inl rfl)) pgs_nil)))
  (pss_cons (ps_if (PW.pt (pw_or (pt_not (pt_val (pe_callB call_isX rfl m_isinstance (by decide +kernel) (pa_cons (pv 8) (pa_cons (pe_glob (v := V.ref _) rfl g_ToneError rfl) pa_nil))))) (pw_or1 (pt_not (pt_val (pe_callB call_isX rfl m_isinstance (by decide +kernel) (pa_cons (pv 8) (pa_cons (pe_bltn (v := .ty "ValueError") (u := .type "ValueError") rfl m_ValueError (by decide +kernel) rfl) pa_nil))))))))
  (pss_one (ps_ret pe_bl))
  pss_nil)
  (pss_one (ps_if (pt_cmpR (op_neD hr.units) (pe_hs h__law_kinds hr rfl (pa_cons (pv 8) pa_nil)) (pe_lc (own := [("other", 9)]) (g := gName 9) (by rfl) (sc_law).nd (pi_range1 (by rfl) m_range (pa_cons pe_int pa_nil)) (blkOk_by (own := [("other", 9)]) (N := ["script", "at", "tank", "text", "turn", "spot", "made", "rank", "one", "other"]) (sc := defScope s_law) (by decide +kernel)) (fun _ _ _ _ _ => pg_name (i := 9) (sc_law).nd rfl (Or.inl rfl)) (fun _ _ _ _ _ => pts_nil) (fun _ _ _ _ _ => (pe_cmpR op_eq (pv 9) (pv 7) (nomark _)))) (nomark _))
  (pss_one (ps_ret pe_bl))
  pss_nil))))
  (pss_cons (ps_if (PW.pt (pw_or (pt_not (pt_val (pe_hsG h__law_fields_right hgd hr rfl (pa_cons (pv 6) (pa_cons (pv 5) pa_nil))))) (pw_or1 (pt_cmpR (op_neD hr.units) (pe_hs h__law_kinds hr rfl (pa_cons (pe_exc1 PySem.F.excBase_ValueError x_ToneError g_ToneError k_ToneError rfl (pv 3)) pa_nil)) (pe_op op_rep (pe_lst (pa_cons pe_bl pa_nil)) pe_int) (nomark _)))))
  (pss_one (ps_ret pe_bl))
  pss_nil)
  (pss_one (ps_if (pt_not (pt_val (pe_callB call_isX rfl m_isinstance (by decide +kernel) (pa_cons (pe_exc1 PySem.F.excBase_ValueError x_ToneError g_ToneError k_ToneError rfl (pv 3)) (pa_cons (pe_bltn (v := .ty "ValueError") (u := .type "ValueError") rfl m_ValueError (by decide +kernel) rfl) pa_nil)))))
  (pss_one (ps_ret pe_bl))
  pss_nil)))))))))
  (pss_one (ps_ret pe_bl)))), ?_⟩
    walk_at "rd"
    generalize hm : (if (if ((ns.map V.int).length : Int) < 3 then ((ns.map V.int).length : Int) else 3) > 1 then (if ((ns.map V.int).length : Int) < 3 then ((ns.map V.int).length : Int) else 3) else 1) = m
    have m13 : 1 ≤ m ∧ m ≤ 3 := by
      rw [← hm]
      constructor <;> (repeat' split) <;> omega
    refine ⟨by omega, by omega, ?_⟩
    refine run_forR (fun i σ G => ∃ v1 v2 v3 v5 v6 v7 v8 : Option V, σ = [some (.ref a), v1, v2, v3, none, v5, v6, v7, v8, none] ∧ Ex H G) ?_ ?_ ?_
    · exact ⟨_, _, _, _, _, _, _, rfl, Ex.refl _⟩
    · rintro i σ G hi ⟨v1, v2, v3, v5, v6, v7, v8, rfl, eG⟩
      walk_at "rd"
      refine ⟨a, ns, i, by simp, Evl.ex_l eG hS, by omega, fun j G1 hj e1 hJ => ?_⟩
      have hjH : H j = none := Evl.fresh_back eG hj
      have eG1 := eG.trans e1
      walk_at "rd"
      refine go_join ?_
      walk_at "rd"
      refine ⟨⟨_, rfl⟩, ?_⟩
      walk_at "rd"
      refine pick_go hJ (by omega) (by omega) (by omega) fun u G2 u0 u1 J2 y2 => ?_
      walk_at "rd"
      refine ⟨by omega, by omega, ?_⟩
      refine run_lcR (fun D i' G' => ∃ ys : List Str, G' D = some (.lst (ys.map V.str)) ∧ ys.length = i' ∧ (∀ y ∈ ys, y.length = 1) ∧ JarAt (1 + i') G' j ∧ Jx [j] G2 G' ∧ G2 D = none) ?_ ?_ ?_
      · exact fun D hD => ⟨[], upd_same, rfl, (fun _ h => nomatch h), J2.keep (upd_ne (fresh_ne J2.obj.choose_spec hD).symm), Jx.new hD, hD⟩
      · rintro D i' G' hi' ⟨ys, hD, hl, h1, J, x, nD⟩
        have hDj : D ≠ j := fresh_ne J2.obj.choose_spec nD
        walk_at "rd"
        refine ⟨rfl, go_yes (iteT ?_)⟩
        walk_at "rd"
        refine pick_go J (by omega) (by omega) (by omega) fun r G3 r0 r1 J3 y3 => ?_
        have hD3 := y3.get hD (nin1 hDj)
        obtain ⟨c, hc⟩ : ∃ c, atI (("abc \n-" : Str).cps.toList) r = some c := by
          rcases (by omega : r = 0 ∨ r = 1 ∨ r = 2 ∨ r = 3 ∨ r = 4 ∨ r = 5) with rfl | rfl | rfl | rfl | rfl | rfl <;> exact ⟨_, rfl⟩
        refine ⟨_, r, c, rfl, rfl, (by decide +kernel), hc, ?_⟩
        refine ⟨_, hD3, ?_, ys ++ [⟨#[c]⟩], by rw [List.map_append]; exact upd_same, by simp [hl], fun y hy => ?_, ?_, ?_, nD⟩
        · rw [List.length_map, hl]
          exact Nat.lt_of_lt_of_le (by omega : i' < 10) (by decide)
        · rcases List.mem_append.mp hy with hy | hy
          · exact h1 y hy
          · rw [List.mem_singleton.mp hy]
            rfl
        · exact (J3.mono (by omega)).keep (upd_ne hDj.symm)
        · exact Jx.less (((x.tr y3).more (T := [D, j]) (by simp)).tr (Jx.upd (by simp))) nD
      · rintro D G3 nD ⟨ys, hD, hl, h1, J3, x3, _⟩
        have x03 : Jx [j] G G3 := ((Jx.of e1).tr y2).tr x3
        refine ⟨_, D, ys, rfl, rfl, .inl (.inl (.inl hD)), ?_, ?_⟩
        · rw [sum_ones h1, hl, show (("" : Str).length) = 0 from rfl]
          omega
        generalize Txt.join "" ys = txt
        have p29 : CPowW 10 29 := wide_pow (b := 4) (by decide) (by decide) (by decide)
        walk_at "rd"
        refine pick_go J3 (by omega) (by omega) (by omega) fun r G4 r0 r1 J4 y4 => ?_
        walk_at "rd"
        intro p hp
        have hpj : p ≠ j := fresh_ne J4.obj.choose_spec hp
        have J5 := J4.keep (upd_ne (o := .lst [.non, .int 0, .int r, .int (10 ^ (29 : Int).toNat)]) hpj.symm)
        walk_at "rd"
        refine pick_go J5 (by omega) (by omega) (by omega) fun z G6 z0 z1 J6 y6 => ?_
        have hp6 := y6.get (upd_same (H := G4) (a := p) (o := .lst [.non, .int 0, .int r, .int (10 ^ (29 : Int).toNat)])) (nin1 hpj)
        have x06 : Jx [j] G G6 := ((x03.tr y4).tr (Jx.new hp)).tr y6
        have e6 : Ex H G6 := fun b o q => by
          have hb : b ≠ j := fun z => by rw [z, hjH] at q; cases q
          exact x06.get (eG _ _ q) (nin1 hb)
        obtain ⟨v, d, hv, hd, hf⟩ : ∃ (v : V) (d : PyData), atI [.non, .int 0, .int r, .int (10 ^ (29 : Int).toNat)] z = some v ∧ (∀ G, Dq G v d) ∧ Fine 600 0 d := by
          rcases (by omega : z = 0 ∨ z = 1 ∨ z = 2 ∨ z = 3) with rfl | rfl | rfl | rfl
          · exact ⟨.non, .none, rfl, fun _ => .non, Fine.none.mono (by decide) (by decide)⟩
          · exact ⟨.int 0, .int 0, rfl, fun _ => .int _, Fine.int (by decide)⟩
          · exact ⟨.int r, .int r, rfl, fun _ => .int _, Fine.int (by omega)⟩
          · exact ⟨_, _, rfl, fun _ => .int _, Fine.int (by decide +kernel)⟩
        refine go_ixL (.inl hp6) hv ?_
        walk_at "rd"
        refine ⟨txt, v, rfl, fun pm G7 as e7 hpm tw => ?_⟩
        have E7 := e6.trans e7
        walk_at "rd"
        refine ⟨pm, _, rfl, .inl (.inl hpm), ?_⟩
        refine run_forE ((List.range 12).map fun i => V.ref (as i)) (fun i' σ G => ∃ v7 v8 : Option V, σ = [some (.ref a), some (.int (0 + (i : Int))), some (.ref j), some (.str txt), none, some v, some (.ref pm), v7, v8, none] ∧ Ex G7 G) ?_ ?_ ?_ ?_
        · exact ⟨_, _, rfl, Ex.refl _⟩
        · rintro i' σ G' _ ⟨v7, v8, rfl, e⟩
          exact .inl (.inl (e _ _ hpm))
        · rintro i' y σ G8 Tp hy ⟨v7, v8, rfl, e8⟩ hT
          have hi' : i' < 12 := by have := (List.getElem?_eq_some_iff.mp hy).1; simpa using this
          obtain rfl : V.ref (as i') = y := by
            have := hy
            simp [hi'] at this
            exact this
          have eT := Ex.new (o := HO.tup [.int (i' : Nat), .ref (as i')]) hT
          have tw8 := tw.ex (e8.trans eT)
          refine go_gtup (.inl (.inl upd_same)) rfl ?_
          walk_at "rd"
          refine go_isX (B.cls i' hi') (tw8.at_ i' hi') (B.kT i' hi') ?_
          walk_at "rd"
          refine iteF ?_
          walk_at "rd"
          refine go_isXt (B.cls i' hi') (tw8.at_ i' hi') (B.kV i' hi') ?_
          walk_at "rd"
          refine iteF ?_
          walk_at "rd"
          refine ⟨as i', cs i', fun j => decide (i' = j), rfl, tw8.at_ i' hi', B.cls i' hi', fun j hj => B.kk i' j hi' hj, fun pk G9 nk e9 hk => ?_⟩
          walk_at "rd"
          refine ⟨by decide, by decide, ?_⟩
          refine run_lcR (fun D n G => G D = some (.lst (((List.range n).map fun j => decide (i' = j)).map V.bl)) ∧ Ex G9 G ∧ G9 D = none) ?_ ?_ ?_
          · exact fun D hD => ⟨upd_same, Ex.new hD, hD⟩
          · rintro D n G hn ⟨hD, e, nD⟩
            walk_at "rd"
            refine ⟨rfl, go_yes (iteT ?_)⟩
            walk_at "rd"
            refine ⟨_, hD, ?_, ?_, Ex.mut e nD, nD⟩
            · simp
              exact Nat.lt_of_lt_of_le (by omega : n < 12) (by decide)
            · rw [upd_same, List.range_succ]
              have e1 : decide (V.int (0 + (n : Int)) = V.int (i' : Nat)) = decide (i' = n) := by
                by_cases q : i' = n
                · simp [q]
                · have : ¬ n = i' := fun z => q z.symm
                  simp [q]
                  omega
              rw [e1]
              simp
          · rintro D G10 nD ⟨hD, e10, _⟩
            have hk' : G10 pk = some (.lst (((List.range 12).map fun j => decide (i' = j)).map V.bl)) := by
              rw [List.map_map]
              exact e10 _ _ hk
            refine go_neB _ hk' hD ?_
            walk_at "rd"
            refine iteF ?_
            walk_at "rd"
            exact ⟨_, _, rfl, ((e8.trans eT).trans e9).trans e10⟩
        · rintro σ G8 ⟨v7, v8, rfl, e8⟩
          have tw8 := tw.ex e8
          walk_at "rd"
          refine ⟨pm, v, as, d, rfl, e8 _ _ hpm, tw8, hd, hf, fun G9 e9 => ?_⟩
          walk_at "rd"
          refine iteF ?_
          walk_at "rd"
          intro b nb
          have eb := Ex.new (o := ExO (.ref T) b) nb
          walk_at "rd"
          refine ⟨b, T, fun _ => false, rfl, made_err (Ex.refl _), B.clsT, fun j hj => B.tk j hj, fun pk G11 nk e11 hk => ?_⟩
          walk_at "rd"
          intro l1 n1
          have f1 := Ex.new (o := HO.lst [.bl false]) n1
          walk_at "rd"
          refine go_rep (xs := [.bl false]) (k := 12) upd_same (by decide) (Nat.le_of_ble_eq_true rfl) fun l2 n2 => ?_
          have f2 := Ex.new (o := HO.lst (List.replicate (12 : Int).toNat [V.bl false]).flatten) n2
          refine go_neB ((List.range 12).map fun _ => false) ?_ ?_ ?_
          · rw [List.map_map]
            exact (f1.trans f2) _ _ hk
          · exact upd_same
          walk_at "rd"
          refine iteF ?_
          walk_at "rd"
          intro b2 nb2
          have eb2 := Ex.new (o := ExO (.ref T) b2) nb2
          walk_at "rd"
          refine go_isXt B.clsT (made_err (Ex.refl _)) B.tV ?_
          walk_at "rd"
          refine iteF ?_
          walk_at "rd"
          exact ⟨_, _, _, _, _, _, _, rfl, (((((((E7.trans e8).trans e9).trans eb).trans e11).trans f1).trans f2).trans eb2)⟩
    · rintro σ G ⟨v1, v2, v3, v5, v6, v7, v8, rfl, e⟩
      walk_at "rd"
      exact k _
end
end Kx

set_option Elab.async false
set_option linter.all false
set_option maxRecDepth 100000
set_option maxHeartbeats 2000000
namespace Kx
open PySem PySem.Spec PyProof.Rows L2 HX
open Evl (Ex)
/-- all that isinstance says of the twelve and of ToneError -/
def kitsOk (K : PySem.W.Frag) (cs : Nat → Addr) (T : Addr) : Bool :=
  ((List.range 12).all fun i => (List.range 12).all fun j => PySem.W.kitOne K (.ref (cs i)) (.ref (cs j)) == some (decide (i = j))) &&
  ((List.range 12).all fun i => PySem.W.kitOne K (.ref (cs i)) (.ref T) == some true) && ((List.range 12).all fun i => PySem.W.kitOne K (.ref (cs i)) (.type "ValueError") == some true) &&
  ((List.range 12).all fun j => PySem.W.kitOne K (.ref T) (.ref (cs j)) == some false) && PySem.W.kitOne K (.ref T) (.type "ValueError") == some true
theorem all_mk {P : Program} {w : World} {K : PySem.W.Frag} {h : Heap} {mg : Str → Option Value} {fa f1 f2 f3 f4 f5 f6 : Addr} {od1 an1 od2 an2 od3 an3 od4 an4 od5 an5 od6 an6 : Option Addr} {sl1 sl2 sl3 sl4 sl5 sl6 : Array (Option Value)} {oc1 kV1 dc1 pm1 cd1 ct1 oc2 kV2 dc2 pm2 cd2 ct2 oc3 kV3 dc3 pm3 cd3 ct3 oc4 kV4 dc4 pm4 cd4 ct4 oc5 kV5 dc5 pm5 cd5 ct5 oc6 kV6 dc6 pm6 cd6 ct6 : Value}
    {T C0 C1 C2 C3 C4 C5 C6 C7 C8 C9 C10 C11 : Addr}
    {i8 u8 v8 N8 : Addr} {nm8 qn8 q8 msg8 file8 : Str} {bs8 bm8 sub8 : List Value} {sn8 : List Str} {ab8 : Bool} {col8 : Option Bool} {dd8 eod8 ean8 cld8 dld8 : Option Addr} {m8_0 m8_1 m8_2 m8_3 m8_5 : Option Value} {eoc8 edc8 epm8 ect8 cl8 dl8 : Value} {esl8 csl8 dsl8 : Array (Option Value)} {vs8 : Array Value} {tf8 : Tok} {p1_8 p2_8 a1_8 a2_8 a3_8 a4_8 a5_8 a6_8 q1_8 q2_8 q3_8 q4_8 : Pos}
    {i9 u9 v9 N9 : Addr} {nm9 qn9 q9 msg9 file9 : Str} {bs9 bm9 sub9 : List Value} {sn9 : List Str} {ab9 : Bool} {col9 : Option Bool} {dd9 eod9 ean9 cld9 dld9 : Option Addr} {m9_0 m9_1 m9_2 m9_3 m9_5 : Option Value} {eoc9 edc9 epm9 ect9 cl9 dl9 : Value} {esl9 csl9 dsl9 : Array (Option Value)} {vs9 : Array Value} {tf9 : Tok} {p1_9 p2_9 a1_9 a2_9 a3_9 a4_9 a5_9 a6_9 q1_9 q2_9 q3_9 q4_9 : Pos}
    {i10 u10 v10 N10 : Addr} {nm10 qn10 q10 msg10 file10 : Str} {bs10 bm10 sub10 : List Value} {sn10 : List Str} {ab10 : Bool} {col10 : Option Bool} {dd10 eod10 ean10 cld10 dld10 : Option Addr} {m10_0 m10_1 m10_2 m10_3 m10_5 : Option Value} {eoc10 edc10 epm10 ect10 cl10 dl10 : Value} {esl10 csl10 dsl10 : Array (Option Value)} {vs10 : Array Value} {tf10 : Tok} {p1_10 p2_10 a1_10 a2_10 a3_10 a4_10 a5_10 a6_10 q1_10 q2_10 q3_10 q4_10 : Pos}
    {i11 u11 v11 N11 : Addr} {nm11 qn11 q11 msg11 file11 : Str} {bs11 bm11 sub11 : List Value} {sn11 : List Str} {ab11 : Bool} {col11 : Option Bool} {dd11 eod11 ean11 cld11 dld11 : Option Addr} {m11_0 m11_1 m11_2 m11_3 m11_5 : Option Value} {eoc11 edc11 epm11 ect11 cl11 dl11 : Value} {esl11 csl11 dsl11 : Array (Option Value)} {vs11 : Array Value} {tf11 : Tok} {p1_11 p2_11 a1_11 a2_11 a3_11 a4_11 a5_11 a6_11 q1_11 q2_11 q3_11 q4_11 : Pos} (X : K.In h) (G : h.Ns mainGlobals mg) (hfa : mg "law" = some (.ref fa))
    (a1 : PySem.W.nsIn K mainGlobals "_law_tank" = some (some (.ref f1)))
    (l1 : K.lookup f1 = some ⟨oc1, od1, .func (PySem.W.fnOf "_law_tank" "_law_tank" (defArgs s__law_tank) (defBody s__law_tank) (defScope s__law_tank) .none kV1 dc1 pm1 an1 cd1 ct1), sl1⟩)
    (c1 : PySem.W.codeIn K cd1 "_law_tank" = true)
    (k1 : PySem.W.keepIn K (.ref f1) = true)
    (a2 : PySem.W.nsIn K mainGlobals "_law_tap" = some (some (.ref f2)))
    (l2 : K.lookup f2 = some ⟨oc2, od2, .func (PySem.W.fnOf "_law_tap" "_law_tap" (defArgs s__law_tap) (defBody s__law_tap) (defScope s__law_tap) .none kV2 dc2 pm2 an2 cd2 ct2), sl2⟩)
    (c2 : PySem.W.codeIn K cd2 "_law_tap" = true)
    (k2 : PySem.W.keepIn K (.ref f2) = true)
    (a3 : PySem.W.nsIn K mainGlobals "_law_kinds" = some (some (.ref f3)))
    (l3 : K.lookup f3 = some ⟨oc3, od3, .func (PySem.W.fnOf "_law_kinds" "_law_kinds" (defArgs s__law_kinds) (defBody s__law_kinds) (defScope s__law_kinds) .none kV3 dc3 pm3 an3 cd3 ct3), sl3⟩)
    (c3 : PySem.W.codeIn K cd3 "_law_kinds" = true)
    (k3 : PySem.W.keepIn K (.ref f3) = true)
    (a4 : PySem.W.nsIn K mainGlobals "_law_made" = some (some (.ref f4)))
    (l4 : K.lookup f4 = some ⟨oc4, od4, .func (PySem.W.fnOf "_law_made" "_law_made" (defArgs s__law_made) (defBody s__law_made) (defScope s__law_made) .none kV4 dc4 pm4 an4 cd4 ct4), sl4⟩)
    (c4 : PySem.W.codeIn K cd4 "_law_made" = true)
    (k4 : PySem.W.keepIn K (.ref f4) = true)
    (a5 : PySem.W.nsIn K mainGlobals "_law_fields_right" = some (some (.ref f5)))
    (l5 : K.lookup f5 = some ⟨oc5, od5, .func (PySem.W.fnOf "_law_fields_right" "_law_fields_right" (defArgs s__law_fields_right) (defBody s__law_fields_right) (defScope s__law_fields_right) .none kV5 dc5 pm5 an5 cd5 ct5), sl5⟩)
    (c5 : PySem.W.codeIn K cd5 "_law_fields_right" = true)
    (k5 : PySem.W.keepIn K (.ref f5) = true)
    (a6 : PySem.W.nsIn K mainGlobals "law" = some (some (.ref f6)))
    (l6 : K.lookup f6 = some ⟨oc6, od6, .func (PySem.W.fnOf "law" "law" (defArgs s_law) (defBody s_law) (defScope s_law) .none kV6 dc6 pm6 an6 cd6 ct6), sl6⟩)
    (c6 : PySem.W.codeIn K cd6 "law" = true)
    (k6 : PySem.W.keepIn K (.ref f6) = true)
    (z1 : PySem.W.nsIn K mainGlobals "len" = some none)
    (z2 : PySem.W.nsIn K mainGlobals "max" = some none)
    (z3 : PySem.W.nsIn K mainGlobals "abs" = some none)
    (z4 : PySem.W.nsIn K mainGlobals "int" = some none)
    (z5 : PySem.W.nsIn K mainGlobals "isinstance" = some none)
    (z6 : PySem.W.nsIn K mainGlobals "repr" = some none)
    (z7 : PySem.W.nsIn K mainGlobals "range" = some none)
    (z8 : PySem.W.nsIn K mainGlobals "min" = some none)
    (z9 : PySem.W.nsIn K mainGlobals "enumerate" = some none)
    (z10 : PySem.W.nsIn K mainGlobals "ValueError" = some none)
    (z11 : PySem.W.nsIn K mainGlobals "super" = some none)
    (g0 : PySem.W.nsIn K mainGlobals "InvalidSignal" = some (some (.ref C0)))
    (g1 : PySem.W.nsIn K mainGlobals "InvalidDial" = some (some (.ref C1)))
    (g2 : PySem.W.nsIn K mainGlobals "InvalidTone" = some (some (.ref C2)))
    (g3 : PySem.W.nsIn K mainGlobals "InvalidBand" = some (some (.ref C3)))
    (g4 : PySem.W.nsIn K mainGlobals "InvalidNumber" = some (some (.ref C4)))
    (g5 : PySem.W.nsIn K mainGlobals "Impossible" = some (some (.ref C5)))
    (g6 : PySem.W.nsIn K mainGlobals "NothingToUndo" = some (some (.ref C6)))
    (g7 : PySem.W.nsIn K mainGlobals "InvalidCommand" = some (some (.ref C7)))
    (g8 : PySem.W.nsIn K mainGlobals "InvalidReceiver" = some (some (.ref C8)))
    (g9 : PySem.W.nsIn K mainGlobals "InvalidLooks" = some (some (.ref C9)))
    (g10 : PySem.W.nsIn K mainGlobals "InvalidSignals" = some (some (.ref C10)))
    (g11 : PySem.W.nsIn K mainGlobals "InvalidSyntax" = some (some (.ref C11)))
    (gT : PySem.W.nsIn K mainGlobals "ToneError" = some (some (.ref T)))
    (x0 : PySem.W.excIn K C0 veM "ValueError.__new__" = true)
    (w0 : PySem.W.keepIn K (.ref C0) = true)
    (x1 : PySem.W.excIn K C1 veM "ValueError.__new__" = true)
    (w1 : PySem.W.keepIn K (.ref C1) = true)
    (x2 : PySem.W.excIn K C2 veM "ValueError.__new__" = true)
    (w2 : PySem.W.keepIn K (.ref C2) = true)
    (x3 : PySem.W.excIn K C3 veM "ValueError.__new__" = true)
    (w3 : PySem.W.keepIn K (.ref C3) = true)
    (x4 : PySem.W.excIn K C4 veM "ValueError.__new__" = true)
    (w4 : PySem.W.keepIn K (.ref C4) = true)
    (x5 : PySem.W.excIn K C5 veM "ValueError.__new__" = true)
    (w5 : PySem.W.keepIn K (.ref C5) = true)
    (x6 : PySem.W.excIn K C6 veM "ValueError.__new__" = true)
    (w6 : PySem.W.keepIn K (.ref C6) = true)
    (x7 : PySem.W.excIn K C7 veM "ValueError.__new__" = true)
    (w7 : PySem.W.keepIn K (.ref C7) = true)
    (xT : PySem.W.excIn K T veM "ValueError.__new__" = true)
    (wT : PySem.W.keepIn K (.ref T) = true)
    (e0 : ExcC K C0)
    (e1 : ExcC K C1)
    (e2 : ExcC K C2)
    (e3 : ExcC K C3)
    (e4 : ExcC K C4)
    (e5 : ExcC K C5)
    (e6 : ExcC K C6)
    (e7 : ExcC K C7)
    (e8 : ExcC K C8)
    (e9 : ExcC K C9)
    (e10 : ExcC K C10)
    (e11 : ExcC K C11)
    (eT : ExcC K T)
    (op : PySem.W.nsIn K cStatics "thirdparty.any" = some none)
    (tp : (P.main.scope.names.lookup ("super" : Str)).isSome = false)
    (xL8 : K.lookup C8 = some (excClassObj nm8 qn8 C8 N8 bs8 bm8 true sn8 sub8 ab8 col8 dd8 m8_0 m8_1 m8_2 m8_3 m8_5 "ValueError.__new__"))
    (rv8 : PySem.HandSPX.refsVE bm8 = true)
    (sa8 : PySem.W.findIn K (.ref C8) "__setattr__" = some (some (.builtin "object.__setattr__")))
    (no8 : PySem.W.findIn K (.ref C8) "index" = some none)
    (iC8 : PySem.W.findIn K (.ref C8) "__init__" = some (some (.ref i8)))
    (tC8 : PySem.W.typeIn K (.ref i8) = some (.type "function"))
    (kC8 : PySem.W.keepIn K (.ref C8) = true)
    (ve8 : PySem.W.subIn K (.ref C8) (.type "ValueError") = some true)
    (me8 : PySem.W.mroIn K C8 (.ref C8) = some true)
    (ty8 : PySem.W.typeIn K (.ref C8) = some (.type "type"))
    (te8 : PySem.W.exmOne K (.ref C8) (.ref C8) = some true)
    (su8 : PySem.W.ks_superIn K C8 C8 "__init__" = some (some (.builtin "ValueError.__init__")))
    (li8 : K.lookup i8 = some ⟨eoc8, eod8, .func (PySem.W.fnX "__init__" q8 (SupX.iA "index" p1_8 p2_8) (SupX.iB "index" msg8 a1_8 a2_8 a3_8 a4_8 a5_8 a6_8 q1_8 q2_8 q3_8 q4_8) (SupX.iS "index") [("__class__", u8)] .none .none edc8 epm8 ean8 (.ref v8) ect8), esl8⟩)
    (ci8 : PySem.W.codeIn K (.ref v8) q8 = true)
    (lu8 : K.lookup u8 = some ⟨cl8, cld8, .cell (some (.ref C8)), csl8⟩)
    (lv8 : K.lookup v8 = some ⟨dl8, dld8, .fields vs8, dsl8⟩)
    (vv8 : vs8[2]? = some (.str file8 tf8))
    (fi8 : ((P.main.file : Str) == file8) = true)
    (hl8 : (a3_8.endLine == a5_8.line) = true)
    (xL9 : K.lookup C9 = some (excClassObj nm9 qn9 C9 N9 bs9 bm9 true sn9 sub9 ab9 col9 dd9 m9_0 m9_1 m9_2 m9_3 m9_5 "ValueError.__new__"))
    (rv9 : PySem.HandSPX.refsVE bm9 = true)
    (sa9 : PySem.W.findIn K (.ref C9) "__setattr__" = some (some (.builtin "object.__setattr__")))
    (no9 : PySem.W.findIn K (.ref C9) "index" = some none)
    (iC9 : PySem.W.findIn K (.ref C9) "__init__" = some (some (.ref i9)))
    (tC9 : PySem.W.typeIn K (.ref i9) = some (.type "function"))
    (kC9 : PySem.W.keepIn K (.ref C9) = true)
    (ve9 : PySem.W.subIn K (.ref C9) (.type "ValueError") = some true)
    (me9 : PySem.W.mroIn K C9 (.ref C9) = some true)
    (ty9 : PySem.W.typeIn K (.ref C9) = some (.type "type"))
    (te9 : PySem.W.exmOne K (.ref C9) (.ref C9) = some true)
    (su9 : PySem.W.ks_superIn K C9 C9 "__init__" = some (some (.builtin "ValueError.__init__")))
    (li9 : K.lookup i9 = some ⟨eoc9, eod9, .func (PySem.W.fnX "__init__" q9 (SupX.iA "index" p1_9 p2_9) (SupX.iB "index" msg9 a1_9 a2_9 a3_9 a4_9 a5_9 a6_9 q1_9 q2_9 q3_9 q4_9) (SupX.iS "index") [("__class__", u9)] .none .none edc9 epm9 ean9 (.ref v9) ect9), esl9⟩)
    (ci9 : PySem.W.codeIn K (.ref v9) q9 = true)
    (lu9 : K.lookup u9 = some ⟨cl9, cld9, .cell (some (.ref C9)), csl9⟩)
    (lv9 : K.lookup v9 = some ⟨dl9, dld9, .fields vs9, dsl9⟩)
    (vv9 : vs9[2]? = some (.str file9 tf9))
    (fi9 : ((P.main.file : Str) == file9) = true)
    (hl9 : (a3_9.endLine == a5_9.line) = true)
    (xL10 : K.lookup C10 = some (excClassObj nm10 qn10 C10 N10 bs10 bm10 true sn10 sub10 ab10 col10 dd10 m10_0 m10_1 m10_2 m10_3 m10_5 "ValueError.__new__"))
    (rv10 : PySem.HandSPX.refsVE bm10 = true)
    (sa10 : PySem.W.findIn K (.ref C10) "__setattr__" = some (some (.builtin "object.__setattr__")))
    (no10 : PySem.W.findIn K (.ref C10) "index" = some none)
    (iC10 : PySem.W.findIn K (.ref C10) "__init__" = some (some (.ref i10)))
    (tC10 : PySem.W.typeIn K (.ref i10) = some (.type "function"))
    (kC10 : PySem.W.keepIn K (.ref C10) = true)
    (ve10 : PySem.W.subIn K (.ref C10) (.type "ValueError") = some true)
    (me10 : PySem.W.mroIn K C10 (.ref C10) = some true)
    (ty10 : PySem.W.typeIn K (.ref C10) = some (.type "type"))
    (te10 : PySem.W.exmOne K (.ref C10) (.ref C10) = some true)
    (su10 : PySem.W.ks_superIn K C10 C10 "__init__" = some (some (.builtin "ValueError.__init__")))
    (li10 : K.lookup i10 = some ⟨eoc10, eod10, .func (PySem.W.fnX "__init__" q10 (SupX.iA "index" p1_10 p2_10) (SupX.iB "index" msg10 a1_10 a2_10 a3_10 a4_10 a5_10 a6_10 q1_10 q2_10 q3_10 q4_10) (SupX.iS "index") [("__class__", u10)] .none .none edc10 epm10 ean10 (.ref v10) ect10), esl10⟩)
    (ci10 : PySem.W.codeIn K (.ref v10) q10 = true)
    (lu10 : K.lookup u10 = some ⟨cl10, cld10, .cell (some (.ref C10)), csl10⟩)
    (lv10 : K.lookup v10 = some ⟨dl10, dld10, .fields vs10, dsl10⟩)
    (vv10 : vs10[2]? = some (.str file10 tf10))
    (fi10 : ((P.main.file : Str) == file10) = true)
    (hl10 : (a3_10.endLine == a5_10.line) = true)
    (xL11 : K.lookup C11 = some (excClassObj nm11 qn11 C11 N11 bs11 bm11 true sn11 sub11 ab11 col11 dd11 m11_0 m11_1 m11_2 m11_3 m11_5 "ValueError.__new__"))
    (rv11 : PySem.HandSPX.refsVE bm11 = true)
    (sa11 : PySem.W.findIn K (.ref C11) "__setattr__" = some (some (.builtin "object.__setattr__")))
    (no11 : PySem.W.findIn K (.ref C11) "word" = some none)
    (iC11 : PySem.W.findIn K (.ref C11) "__init__" = some (some (.ref i11)))
    (tC11 : PySem.W.typeIn K (.ref i11) = some (.type "function"))
    (kC11 : PySem.W.keepIn K (.ref C11) = true)
    (ve11 : PySem.W.subIn K (.ref C11) (.type "ValueError") = some true)
    (me11 : PySem.W.mroIn K C11 (.ref C11) = some true)
    (ty11 : PySem.W.typeIn K (.ref C11) = some (.type "type"))
    (te11 : PySem.W.exmOne K (.ref C11) (.ref C11) = some true)
    (su11 : PySem.W.ks_superIn K C11 C11 "__init__" = some (some (.builtin "ValueError.__init__")))
    (li11 : K.lookup i11 = some ⟨eoc11, eod11, .func (PySem.W.fnX "__init__" q11 (SupX.iA "word" p1_11 p2_11) (SupX.iB "word" msg11 a1_11 a2_11 a3_11 a4_11 a5_11 a6_11 q1_11 q2_11 q3_11 q4_11) (SupX.iS "word") [("__class__", u11)] .none .none edc11 epm11 ean11 (.ref v11) ect11), esl11⟩)
    (ci11 : PySem.W.codeIn K (.ref v11) q11 = true)
    (lu11 : K.lookup u11 = some ⟨cl11, cld11, .cell (some (.ref C11)), csl11⟩)
    (lv11 : K.lookup v11 = some ⟨dl11, dld11, .fields vs11, dsl11⟩)
    (vv11 : vs11[2]? = some (.str file11 tf11))
    (fi11 : ((P.main.file : Str) == file11) = true)
    (hl11 : (a3_11.endLine == a5_11.line) = true)
    (kk : kitsOk K (fun i => [C0, C1, C2, C3, C4, C5, C6, C7, C8, C9, C10, C11].getD i 0) T = true) :
    ∃ fd : FuncData, (∀ (s : Shared) (v : Value), BindsTo s fd ⟨[v], []⟩ [("script", v)]) ∧ ∀ base : Heap, K.In base → base.Ns mainGlobals mg → FnG P w K mg base CX0 2 fa fd ["script"] (spLaw K) := by
  have e := hfa.symm.trans (PySem.W.mg_of X G a6)
  cases e
  have m_len := PySem.W.mg_none_of X G z1
  have m_max := PySem.W.mg_none_of X G z2
  have m_abs := PySem.W.mg_none_of X G z3
  have m_int := PySem.W.mg_none_of X G z4
  have m_isinstance := PySem.W.mg_none_of X G z5
  have m_repr := PySem.W.mg_none_of X G z6
  have m_range := PySem.W.mg_none_of X G z7
  have m_min := PySem.W.mg_none_of X G z8
  have m_enumerate := PySem.W.mg_none_of X G z9
  have m_ValueError := PySem.W.mg_none_of X G z10
  have m_super := PySem.W.mg_none_of X G z11
  obtain ⟨cs, hcs⟩ : ∃ cs : Nat → Addr, cs = fun i => [C0, C1, C2, C3, C4, C5, C6, C7, C8, C9, C10, C11].getD i 0 := ⟨_, rfl⟩
  obtain ⟨fi, hfi⟩ : ∃ fi : Nat → Addr, fi = fun i => [0, 0, 0, 0, 0, 0, 0, 0, i8, i9, i10, i11].getD i 0 := ⟨_, rfl⟩
  have hc0 : cs 0 = C0 := by rw [hcs]; rfl
  have hc1 : cs 1 = C1 := by rw [hcs]; rfl
  have hc2 : cs 2 = C2 := by rw [hcs]; rfl
  have hc3 : cs 3 = C3 := by rw [hcs]; rfl
  have hc4 : cs 4 = C4 := by rw [hcs]; rfl
  have hc5 : cs 5 = C5 := by rw [hcs]; rfl
  have hc6 : cs 6 = C6 := by rw [hcs]; rfl
  have hc7 : cs 7 = C7 := by rw [hcs]; rfl
  have hc8 : cs 8 = C8 := by rw [hcs]; rfl
  have hc9 : cs 9 = C9 := by rw [hcs]; rfl
  have hc10 : cs 10 = C10 := by rw [hcs]; rfl
  have hc11 : cs 11 = C11 := by rw [hcs]; rfl
  have hi8 : fi 8 = i8 := by rw [hfi]; rfl
  have hi9 : fi 9 = i9 := by rw [hfi]; rfl
  have hi10 : fi 10 = i10 := by rw [hfi]; rfl
  have hi11 : fi 11 = i11 := by rw [hfi]; rfl
  rw [← hcs] at kk
  simp only [kitsOk, Bool.and_eq_true, List.all_eq_true, List.mem_range, beq_iff_eq] at kk
  obtain ⟨⟨⟨⟨k1', k2'⟩, k3'⟩, k4'⟩, k5'⟩ := kk
  have B : Tab P K mg cs fi T := {
    p0 := by rw [hc0]; exact ⟨PySem.W.mg_of X G g0, x0, w0⟩
    p1 := by rw [hc1]; exact ⟨PySem.W.mg_of X G g1, x1, w1⟩
    p2 := by rw [hc2]; exact ⟨PySem.W.mg_of X G g2, x2, w2⟩
    p3 := by rw [hc3]; exact ⟨PySem.W.mg_of X G g3, x3, w3⟩
    p4 := by rw [hc4]; exact ⟨PySem.W.mg_of X G g4, x4, w4⟩
    p5 := by rw [hc5]; exact ⟨PySem.W.mg_of X G g5, x5, w5⟩
    p6 := by rw [hc6]; exact ⟨PySem.W.mg_of X G g6, x6, w6⟩
    p7 := by rw [hc7]; exact ⟨PySem.W.mg_of X G g7, x7, w7⟩
    pT := ⟨PySem.W.mg_of X G gT, xT, wT⟩
    t8 := by rw [hc8, hi8]; exact { okf := .inl rfl, gC := PySem.W.mg_of X G g8, cls := ⟨_, _, _, _, _, _, _, _, _, _, _, _, _, _, _, xL8, rv8⟩, sa := sa8, ga := e8.hg, gg := e8.hk, noN := no8, iC := iC8, tC := tC8, kC := kC8, exC := e8.hs, veC := ve8, meC := me8, tyC := ty8, hdC := e8.hd, te := te8, sup := su8, op := op, gs := m_super, top := tp, fn := ⟨_, _, _, _, _, _, .none, _, _, _, _, _, _, _, _, _, _, _, _, _, _, _, _, _, _, _, _, _, _, _, _, _, _, li8, ci8, lu8, lv8, vv8, fi8, hl8⟩ }
    t9 := by rw [hc9, hi9]; exact { okf := .inl rfl, gC := PySem.W.mg_of X G g9, cls := ⟨_, _, _, _, _, _, _, _, _, _, _, _, _, _, _, xL9, rv9⟩, sa := sa9, ga := e9.hg, gg := e9.hk, noN := no9, iC := iC9, tC := tC9, kC := kC9, exC := e9.hs, veC := ve9, meC := me9, tyC := ty9, hdC := e9.hd, te := te9, sup := su9, op := op, gs := m_super, top := tp, fn := ⟨_, _, _, _, _, _, .none, _, _, _, _, _, _, _, _, _, _, _, _, _, _, _, _, _, _, _, _, _, _, _, _, _, _, li9, ci9, lu9, lv9, vv9, fi9, hl9⟩ }
    t10 := by rw [hc10, hi10]; exact { okf := .inl rfl, gC := PySem.W.mg_of X G g10, cls := ⟨_, _, _, _, _, _, _, _, _, _, _, _, _, _, _, xL10, rv10⟩, sa := sa10, ga := e10.hg, gg := e10.hk, noN := no10, iC := iC10, tC := tC10, kC := kC10, exC := e10.hs, veC := ve10, meC := me10, tyC := ty10, hdC := e10.hd, te := te10, sup := su10, op := op, gs := m_super, top := tp, fn := ⟨_, _, _, _, _, _, .none, _, _, _, _, _, _, _, _, _, _, _, _, _, _, _, _, _, _, _, _, _, _, _, _, _, _, li10, ci10, lu10, lv10, vv10, fi10, hl10⟩ }
    t11 := by rw [hc11, hi11]; exact { okf := .inr rfl, gC := PySem.W.mg_of X G g11, cls := ⟨_, _, _, _, _, _, _, _, _, _, _, _, _, _, _, xL11, rv11⟩, sa := sa11, ga := e11.hg, gg := e11.hk, noN := no11, iC := iC11, tC := tC11, kC := kC11, exC := e11.hs, veC := ve11, meC := me11, tyC := ty11, hdC := e11.hd, te := te11, sup := su11, op := op, gs := m_super, top := tp, fn := ⟨_, _, _, _, _, _, .none, _, _, _, _, _, _, _, _, _, _, _, _, _, _, _, _, _, _, _, _, _, _, _, _, _, _, li11, ci11, lu11, lv11, vv11, fi11, hl11⟩ }
    cls := fun i hi => by
      match i, hi with
      | 0, _ => rw [hc0]; exact e0
      | 1, _ => rw [hc1]; exact e1
      | 2, _ => rw [hc2]; exact e2
      | 3, _ => rw [hc3]; exact e3
      | 4, _ => rw [hc4]; exact e4
      | 5, _ => rw [hc5]; exact e5
      | 6, _ => rw [hc6]; exact e6
      | 7, _ => rw [hc7]; exact e7
      | 8, _ => rw [hc8]; exact e8
      | 9, _ => rw [hc9]; exact e9
      | 10, _ => rw [hc10]; exact e10
      | 11, _ => rw [hc11]; exact e11
    clsT := eT
    kk := fun i j hi hj => k1' i hi j hj
    kT := fun i hi => k2' i hi
    kV := fun i hi => k3' i hi
    tk := fun j hj => k4' j hj
    tV := k5' }
  refine ⟨PySem.W.fnOf "law" "law" (defArgs s_law) (defBody s_law) (defScope s_law) .none kV6 dc6 pm6 an6 cd6 ct6, fun s v => .of_eq rfl, fun base _ _ => ?_⟩
  have F1 := fun_mk (st := s__law_tank) l1 c1 k1
  have h__law_tank : Has P w K mg base 1 "_law_tank" (spJar K) := ⟨f1, _, ["script", "at"], ok_tank (P := P) (w := w) (mg := mg) (base := base) F1 m_len m_max m_abs m_int, PySem.W.mg_of X G a1, k1, F1.binds (ps := ["script", "at"]) fun _ _ _ _ _ _ us hl => match us, hl with | [_, _], _ => rfl⟩
  have F2 := fun_mk (st := s__law_tap) l2 c2 k2
  have h__law_tap : Has P w K mg base 1 "_law_tap" spPick := ⟨f2, _, ["tank", "many"], ok_tap (P := P) (w := w) (mg := mg) (base := base) F2 m_int, PySem.W.mg_of X G a2, k2, F2.binds (ps := ["tank", "many"]) fun _ _ _ _ _ _ us hl => match us, hl with | [_, _], _ => rfl⟩
  have F3 := fun_mk (st := s__law_kinds) l3 c3 k3
  have h__law_kinds : Has P w K mg base 1 "_law_kinds" (spKinds K cs) := ⟨f3, _, ["made"], ok_kinds (P := P) (w := w) (mg := mg) (base := base) F3 B m_isinstance, PySem.W.mg_of X G a3, k3, F3.binds (ps := ["made"]) fun _ _ _ _ _ _ us hl => match us, hl with | [_], _ => rfl⟩
  have F4 := fun_mk (st := s__law_made) l4 c4 k4
  have h__law_made : Has P w K mg base 1 "_law_made" (spMade cs) := ⟨f4, _, ["text", "spot"], ok_made (P := P) (w := w) (mg := mg) (base := base) F4 B, PySem.W.mg_of X G a4, k4, F4.binds (ps := ["text", "spot"]) fun _ _ _ _ _ _ us hl => match us, hl with | [_, _], _ => rfl⟩
  have F5 := fun_mk (st := s__law_fields_right) l5 c5 k5
  have h__law_fields_right : HasG P w K mg base 1 "_law_fields_right" (spFields cs) := ⟨f5, _, ["made", "spot"], ok_fields (P := P) (w := w) (mg := mg) (base := base) F5 B m_repr, PySem.W.mg_of X G a5, k5, F5.binds (ps := ["made", "spot"]) fun _ _ _ _ _ _ us hl => match us, hl with | [_, _], _ => rfl⟩
  have F6 := fun_mk (st := s_law) l6 c6 k6
  exact ok_law (P := P) (w := w) (mg := mg) (base := base) F6 B m_range m_max m_min m_len m_enumerate m_isinstance m_ValueError h__law_tank h__law_tap h__law_kinds h__law_made h__law_fields_right
theorem walk {l : PySem.W.OpenLaw} {q : Program} {loose : List Str} {XP : (Str → Option Value) → Heap → Prop} {YP : World → Heap → Prop} {d : DefRec} {K : Params → PySem.W.Frag} (hn : l.most = some 63) (hdf : d.params.defaults = [])
    (hY : ∀ (w : World) (h : Heap), YP w h → (K w.params).In h)
    (F : ∀ (w : World) (mg : Str → Option Value) (fa : Addr) (h : Heap), (K w.params).In h → h.Ns mainGlobals mg → mg d.name = some (.ref fa) →
      ∃ fd : FuncData, (∀ (s : Shared) (u : Value), BindsTo s fd ⟨[u], []⟩ [("script", u)]) ∧ ∀ base : Heap, (K w.params).In base → base.Ns mainGlobals mg → FnG l.prog w (K w.params) mg base CX0 2 fa fd ["script"] (spLaw (K w.params))) :
    PySem.W.WalkO q loose XP YP l.row.toRowW d [] (fun f vs => PySem.call f vs) :=
  walk_G (n := 63) (k := 2) (x := "script") (sp := fun K => spLaw K) hn (by decide) hdf ⟨rfl, by decide, by decide⟩ hY F (fun _ _ a ns hl _ hS => ⟨a, ns, rfl, Nat.le_trans hl (by decide), hS, fun _ => rfl⟩)
end Kx

open PySem PySem.W PyProof.Rows
set_option maxRecDepth 100000 in
set_option maxHeartbeats 0 in
theorem PySem.Challenge.cw_imagetones_k00_errors_made_holds : PySem.Challenge.rw_imagetones_k00_errors_made.Holds := by
  w_on; o_law; k_head; (case hw => w_witness2)
  k_fill
  refine Kx.walk (l := PySem.Challenge.rw_imagetones_k00_errors_made) rfl rfl (fun w h Y => PySem.W.kIn_of Y) ?F
  case F =>
    intro w mg fa h KX G hmg
    refine' Kx.all_mk KX G hmg ?hXa1 ?hXl1 ?hXc1 ?hXk1 ?hXa2 ?hXl2 ?hXc2 ?hXk2 ?hXa3 ?hXl3 ?hXc3 ?hXk3 ?hXa4 ?hXl4 ?hXc4 ?hXk4 ?hXa5 ?hXl5 ?hXc5 ?hXk5 ?hXa6 ?hXl6 ?hXc6 ?hXk6 ?hXz1 ?hXz2 ?hXz3 ?hXz4 ?hXz5 ?hXz6 ?hXz7 ?hXz8 ?hXz9 ?hXz10 ?hXz11 ?hXg0 ?hXg1 ?hXg2 ?hXg3 ?hXg4 ?hXg5 ?hXg6 ?hXg7 ?hXg8 ?hXg9 ?hXg10 ?hXg11 ?hXgT ?hXx0 ?hXw0 ?hXx1 ?hXw1 ?hXx2 ?hXw2 ?hXx3 ?hXw3 ?hXx4 ?hXw4 ?hXx5 ?hXw5 ?hXx6 ?hXw6 ?hXx7 ?hXw7 ?hXxT ?hXwT ?hXe0 ?hXe1 ?hXe2 ?hXe3 ?hXe4 ?hXe5 ?hXe6 ?hXe7 ?hXe8 ?hXe9 ?hXe10 ?hXe11 ?hXeT ?hXop ?hXtp ?hXxL8 ?hXrv8 ?hXsa8 ?hXno8 ?hXiC8 ?hXtC8 ?hXkC8 ?hXve8 ?hXme8 ?hXty8 ?hXte8 ?hXsu8 ?hXli8 ?hXci8 ?hXlu8 ?hXlv8 ?hXvv8 ?hXfi8 ?hXhl8 ?hXxL9 ?hXrv9 ?hXsa9 ?hXno9 ?hXiC9 ?hXtC9 ?hXkC9 ?hXve9 ?hXme9 ?hXty9 ?hXte9 ?hXsu9 ?hXli9 ?hXci9 ?hXlu9 ?hXlv9 ?hXvv9 ?hXfi9 ?hXhl9 ?hXxL10 ?hXrv10 ?hXsa10 ?hXno10 ?hXiC10 ?hXtC10 ?hXkC10 ?hXve10 ?hXme10 ?hXty10 ?hXte10 ?hXsu10 ?hXli10 ?hXci10 ?hXlu10 ?hXlv10 ?hXvv10 ?hXfi10 ?hXhl10 ?hXxL11 ?hXrv11 ?hXsa11 ?hXno11 ?hXiC11 ?hXtC11 ?hXkC11 ?hXve11 ?hXme11 ?hXty11 ?hXte11 ?hXsu11 ?hXli11 ?hXci11 ?hXlu11 ?hXlv11 ?hXvv11 ?hXfi11 ?hXhl11 ?hXkk
    (case hXa1 => k_is)
    (case hXl1 => k_is)
    (case hXc1 => k_is)
    (case hXk1 => k_is)
    (case hXa2 => k_is)
    (case hXl2 => k_is)
    (case hXc2 => k_is)
    (case hXk2 => k_is)
    (case hXa3 => k_is)
    (case hXl3 => k_is)
    (case hXc3 => k_is)
    (case hXk3 => k_is)
    (case hXa4 => k_is)
    (case hXl4 => k_is)
    (case hXc4 => k_is)
    (case hXk4 => k_is)
    (case hXa5 => k_is)
    (case hXl5 => k_is)
    (case hXc5 => k_is)
    (case hXk5 => k_is)
    (case hXa6 => k_is)
    (case hXl6 => k_is)
    (case hXc6 => k_is)
    (case hXk6 => k_is)
    (case hXz1 => k_is)
    (case hXz2 => k_is)
    (case hXz3 => k_is)
    (case hXz4 => k_is)
    (case hXz5 => k_is)
    (case hXz6 => k_is)
    (case hXz7 => k_is)
    (case hXz8 => k_is)
    (case hXz9 => k_is)
    (case hXz10 => k_is)
    (case hXz11 => k_is)
    (case hXg0 => k_is)
    (case hXg1 => k_is)
    (case hXg2 => k_is)
    (case hXg3 => k_is)
    (case hXg4 => k_is)
    (case hXg5 => k_is)
    (case hXg6 => k_is)
    (case hXg7 => k_is)
    (case hXg8 => k_is)
    (case hXg9 => k_is)
    (case hXg10 => k_is)
    (case hXg11 => k_is)
    (case hXgT => k_is)
    (case hXx0 => first | k_exc | kernel_rfl)
    (case hXw0 => k_is)
    (case hXx1 => first | k_exc | kernel_rfl)
    (case hXw1 => k_is)
    (case hXx2 => first | k_exc | kernel_rfl)
    (case hXw2 => k_is)
    (case hXx3 => first | k_exc | kernel_rfl)
    (case hXw3 => k_is)
    (case hXx4 => first | k_exc | kernel_rfl)
    (case hXw4 => k_is)
    (case hXx5 => first | k_exc | kernel_rfl)
    (case hXw5 => k_is)
    (case hXx6 => first | k_exc | kernel_rfl)
    (case hXw6 => k_is)
    (case hXx7 => first | k_exc | kernel_rfl)
    (case hXw7 => k_is)
    (case hXxT => first | k_exc | kernel_rfl)
    (case hXwT => k_is)
    (case hXe0 => exact ⟨by kernel_rfl, by kernel_rfl, by kernel_rfl, by kernel_rfl, by kernel_rfl, by kernel_rfl, by kernel_rfl, by kernel_rfl⟩)
    (case hXe1 => exact ⟨by kernel_rfl, by kernel_rfl, by kernel_rfl, by kernel_rfl, by kernel_rfl, by kernel_rfl, by kernel_rfl, by kernel_rfl⟩)
    (case hXe2 => exact ⟨by kernel_rfl, by kernel_rfl, by kernel_rfl, by kernel_rfl, by kernel_rfl, by kernel_rfl, by kernel_rfl, by kernel_rfl⟩)
    (case hXe3 => exact ⟨by kernel_rfl, by kernel_rfl, by kernel_rfl, by kernel_rfl, by kernel_rfl, by kernel_rfl, by kernel_rfl, by kernel_rfl⟩)
    (case hXe4 => exact ⟨by kernel_rfl, by kernel_rfl, by kernel_rfl, by kernel_rfl, by kernel_rfl, by kernel_rfl, by kernel_rfl, by kernel_rfl⟩)
    (case hXe5 => exact ⟨by kernel_rfl, by kernel_rfl, by kernel_rfl, by kernel_rfl, by kernel_rfl, by kernel_rfl, by kernel_rfl, by kernel_rfl⟩)
    (case hXe6 => exact ⟨by kernel_rfl, by kernel_rfl, by kernel_rfl, by kernel_rfl, by kernel_rfl, by kernel_rfl, by kernel_rfl, by kernel_rfl⟩)
    (case hXe7 => exact ⟨by kernel_rfl, by kernel_rfl, by kernel_rfl, by kernel_rfl, by kernel_rfl, by kernel_rfl, by kernel_rfl, by kernel_rfl⟩)
    (case hXe8 => exact ⟨by kernel_rfl, by kernel_rfl, by kernel_rfl, by kernel_rfl, by kernel_rfl, by kernel_rfl, by kernel_rfl, by kernel_rfl⟩)
    (case hXe9 => exact ⟨by kernel_rfl, by kernel_rfl, by kernel_rfl, by kernel_rfl, by kernel_rfl, by kernel_rfl, by kernel_rfl, by kernel_rfl⟩)
    (case hXe10 => exact ⟨by kernel_rfl, by kernel_rfl, by kernel_rfl, by kernel_rfl, by kernel_rfl, by kernel_rfl, by kernel_rfl, by kernel_rfl⟩)
    (case hXe11 => exact ⟨by kernel_rfl, by kernel_rfl, by kernel_rfl, by kernel_rfl, by kernel_rfl, by kernel_rfl, by kernel_rfl, by kernel_rfl⟩)
    (case hXeT => exact ⟨by kernel_rfl, by kernel_rfl, by kernel_rfl, by kernel_rfl, by kernel_rfl, by kernel_rfl, by kernel_rfl, by kernel_rfl⟩)
    (case hXop => k_is)
    (case hXtp => first | rfl | decide +kernel)
    (case hXxL8 => k_is)
    (case hXrv8 => first | rfl | decide +kernel)
    (case hXsa8 => k_is)
    (case hXno8 => k_is)
    (case hXiC8 => k_is)
    (case hXtC8 => k_is)
    (case hXkC8 => k_is)
    (case hXve8 => k_is)
    (case hXme8 => k_is)
    (case hXty8 => k_is)
    (case hXte8 => kernel_rfl)
    (case hXsu8 => kernel_rfl)
    (case hXli8 => k_is)
    (case hXci8 => k_is)
    (case hXlu8 => k_is)
    (case hXlv8 => k_is)
    (case hXvv8 => rfl)
    (case hXfi8 => first | rfl | decide +kernel)
    (case hXhl8 => rfl)
    (case hXxL9 => k_is)
    (case hXrv9 => first | rfl | decide +kernel)
    (case hXsa9 => k_is)
    (case hXno9 => k_is)
    (case hXiC9 => k_is)
    (case hXtC9 => k_is)
    (case hXkC9 => k_is)
    (case hXve9 => k_is)
    (case hXme9 => k_is)
    (case hXty9 => k_is)
    (case hXte9 => kernel_rfl)
    (case hXsu9 => kernel_rfl)
    (case hXli9 => k_is)
    (case hXci9 => k_is)
    (case hXlu9 => k_is)
    (case hXlv9 => k_is)
    (case hXvv9 => rfl)
    (case hXfi9 => first | rfl | decide +kernel)
    (case hXhl9 => rfl)
    (case hXxL10 => k_is)
    (case hXrv10 => first | rfl | decide +kernel)
    (case hXsa10 => k_is)
    (case hXno10 => k_is)
    (case hXiC10 => k_is)
    (case hXtC10 => k_is)
    (case hXkC10 => k_is)
    (case hXve10 => k_is)
    (case hXme10 => k_is)
    (case hXty10 => k_is)
    (case hXte10 => kernel_rfl)
    (case hXsu10 => kernel_rfl)
    (case hXli10 => k_is)
    (case hXci10 => k_is)
    (case hXlu10 => k_is)
    (case hXlv10 => k_is)
    (case hXvv10 => rfl)
    (case hXfi10 => first | rfl | decide +kernel)
    (case hXhl10 => rfl)
    (case hXxL11 => k_is)
    (case hXrv11 => first | rfl | decide +kernel)
    (case hXsa11 => k_is)
    (case hXno11 => k_is)
    (case hXiC11 => k_is)
    (case hXtC11 => k_is)
    (case hXkC11 => k_is)
    (case hXve11 => k_is)
    (case hXme11 => k_is)
    (case hXty11 => k_is)
    (case hXte11 => kernel_rfl)
    (case hXsu11 => kernel_rfl)
    (case hXli11 => k_is)
    (case hXci11 => k_is)
    (case hXlu11 => k_is)
    (case hXlv11 => k_is)
    (case hXvv11 => rfl)
    (case hXfi11 => first | rfl | decide +kernel)
    (case hXhl11 => rfl)
    (case hXkk => kernel_rfl)
