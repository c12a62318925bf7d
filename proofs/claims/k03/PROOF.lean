import PyProof.Rows.All
import Wide.All
import OpenK.AllK
import Wide.FinOn
import HandS.ForMost
import HandS.Evl
import HandS.Steps
import HandS.Wide
import HandS.IsInst
import HandS.Exc
import HandS.ExcOwn
import HandS.TryOnly
import HandS.WordsExc
import HandS.Defaults
import HandS.ExcSuper
import PyProof.ReprRoads
import PyProof.ReprLen
import KE.KExcSuper
import KE.KSuper
import HandS.TryMany
import HandS.ExcIs
import KE.KExcIs
import HandS.ExcCtx
import HandS.HotCalls
import PyProof.Rows.TupIter
import PyProof.Rows.TupAssign
import PySem.Challenge.RW_imagetones_k03_errors_of_receivers
set_option Elab.async false
set_option linter.all false
set_option maxRecDepth 100000
namespace HX
open PySem PySem.Spec PyProof.Rows L2

/-! ### defs whose callers are known to be no repr of anything (so repr's own guard is silent) -/
structure FnG (P : Program) (w : World) (K : PySem.W.Frag) (mg : Str → Option Value) (base : Heap) (CX : CXT) (k : Nat) (f : Addr) (fd : FuncData) (ps : List Str) (sp : Sp) : Prop where
  len : ∀ vs H Q E, sp vs H Q E → vs.length = ps.length
  run : ∀ (A : Around) (outer : List Env) (s : Shared) (H : Hp) (args : Args) (us : List Value) (vs : List V) (Q : VK) (E : XK),
    A.guards = some [] → Room k A → Env0 P w K mg base A outer s H → BindsTo s fd args (ps.zip us) → Vals vs us → sp vs H Q E →
      codeAny (model P w) A (.call (.ref f) args) (CR CX outer P w H s Q E) s

section
variable {P : Program} {w : World} {K : PySem.W.Frag} {mg : Str → Option Value} {base : Heap} {CX : CXT} {k j : Nat} {f : Addr} {fd : FuncData} {ps : List Str} {sp : Sp}
theorem FnG.of (F : FnOk P w K mg base CX k f fd ps sp) : FnG P w K mg base CX k f fd ps sp :=
  ⟨F.len, fun A outer s H args us vs Q E _ => F.run A outer s H args us vs Q E⟩
theorem FnG.mono (F : FnG P w K mg base CX j f fd ps sp) (h : j ≤ k) : FnG P w K mg base CX k f fd ps sp :=
  ⟨F.len, fun A outer s H args us vs Q E g r => F.run A outer s H args us vs Q E g (r.mono h)⟩

theorem okG {x qual : Str} {st : Stmt} {N : List Str} (F : Fun K x qual st f fd) (S : FnScope N ps (defScope st)) (len : ∀ vs H Q E, sp vs H Q E → vs.length = ps.length)
    (hbody : ∀ (cdv : Value) (A : Around) (outer : List Env) (s : Shared) (H : Hp) (vs : List V) (Q : VK) (E : XK), A.guards = some [] →
      Room k (A.deeper (envOfC qual (defScope st) s.heap.objs.size f cdv)) → sp vs H Q E →
      ∃ t, PSs (cxOf CX P w K mg base N qual (defScope st) f cdv A outer s H E) (defBody st) t ∧ t { nx := fun _ H' => Q .non H', rt := Q } (start N vs) H) :
    FnG P w K mg base CX (k + 1) f fd ps sp := by
  obtain ⟨oc, od, kV, doc, pm, an, cdv, ct, osl, rfl, lk, hcd⟩ := F.ex
  constructor
  · exact len
  intro A outer s H args us vs Q E hgd hr e0 hb r hsp
  have hl := len _ _ _ _ hsp
  have kept : ∀ b o, base.get? b = some o → s.heap.get? b = some o := fun b o e => (e0.bs b o e).1
  have KX : K.In s.heap := e0.mod.kin.keeps kept
  have lim : s.heap.NoLimit := e0.mod.nolimit.keeps kept
  have hkind : ∀ y ∈ ps.zip us, (defScope st).names.lookup y.1 = some .local ∨
      ((defScope st).names.lookup y.1 = some .cell ∧ ((cellsFrom (s.heap.objs.size + 1) (defScope st).names []).lookup y.1).isSome = true) := by
    rintro ⟨n, v⟩ hy
    rcases S.par n (List.of_mem_zip hy).1 with q | q
    · exact .inl q
    · exact .inr ⟨q, PySem.W.cellsFrom_some _ _ _ (.inl q)⟩
  apply codeAny_call_function hr.depth (KX _ _ lk) rfl S.co S.gen rfl (PySem.W.codeRec_of KX hcd)
  apply hb
  refine wpAny_newFunctionEnv_cells S.kind hkind fun env he s1 x => ?_
  subst he
  refine ⟨lim.keeps x.toInCall.keep, codeAny_func ?_⟩
  obtain ⟨t, ht, hq⟩ := hbody cdv A outer s H vs Q E hgd (hr.deeper _) hsp
  have I := inv_start (CX := CX) (E := E) S hr.hd e0 hl r x
  refine wpAny_mono (ht.run [] s1 (start N vs) H _ I hq) (fun fl s' hs => ?_) fun e s' hs => hs
  cases fl with
  | ret u => obtain ⟨v, σ', H', J, rv, q⟩ := hs; exact ⟨v, H', J.os, J.bare, J.base, J.hok, rv, q⟩
  | next => obtain ⟨σ', H', J, q⟩ := hs; exact ⟨V.non, H', J.os, J.bare, J.base, J.hok, rfl, q⟩
  | brk => obtain ⟨_, _, _, q⟩ := hs; exact q.elim
  | cont => obtain ⟨_, _, _, q⟩ := hs; exact q.elim
end

section
variable {X : Cx} {CX : CXT} {k : Nat} {f : Addr} {fd : FuncData} {ps : List Str} {sp : Sp} {dvs : List V} {ds : List Value} {E : XK} {x : Str} {p pos : Pos} {e : Expr} {es : List Expr} {t : TA}
theorem run_g {pins : List (Addr × Obj)} {σ : L2.St} {H : Hp} {s : Shared} {Q : VK} {us : List Value} {vs : List V} (F : FnG X.prog X.w X.K X.mg X.base CX k f fd ps sp) (hgd : X.A.guards = some []) (hr : Room k X.A)
    (hb : Binds X.K fd ps ds) (hd : Vals dvs ds) (hx : Passes CX X E) (I : Inv X pins σ H s) (r : Vals vs us) (h : sp (vs ++ dvs) H Q E) :
    wpAny (model X.prog X.w) X.A (call (.ref f) us) (EP X pins σ Q) X.xe s := by
  have r2 : Vals (vs ++ dvs) (us ++ ds) := r.append hd
  have hl : (us ++ ds).length = ps.length := r2.length.symm.trans (F.len _ _ _ _ h)
  apply wpAny_call
  refine codeAny_mono (F.run X.A X.stack s H ⟨us, []⟩ (us ++ ds) (vs ++ dvs) Q E hgd hr I.env0 (hb s us I.kIn hl) r2 h) ?_
  intro r s' hq
  match r, hq with
  | .error e, hq => exact hx pins σ H s e s' I hq
  | .ok (.ret u), hq => exact I.after hq

/-- f(e, ..) of such a def -/
theorem pe_callG (F : FnG X.prog X.w X.K X.mg X.base CX k f fd ps sp) (hgd : X.A.guards = some []) (hr : Room k X.A) (hg : Gl X x) (hm : X.mg x = some (.ref f)) (hk : PySem.W.keepIn X.K (.ref f) = true)
    (hb : Binds X.K fd ps ds) (hd : Vals dvs ds) (hx : Passes CX X E) (ha : PA X (e :: es) t) (hdb : (x == ("__debug__" : Str)) = false := by decide)
    (he : starEach (e :: es) X.env = (false, eval e X.env) :: starEach es X.env := by rfl) (hpl : (backTo pos (starEach es X.env)).any (·.1) = false := by rfl) :
    PE X (.Call (.Name x p) (e :: es) [] pos) (tCall sp dvs E t) := by
  constructor
  intro pins s σ H Q I h
  apply wpAny_Call_Name_kw
  refine ld_glob I hg hm ?_ hdb
  refine PySem.W.callWith_K (h₀ := X.base) I.ok.mod.kin hk ?_ he hpl
  refine thn (ha.run pos pins s σ H _ I h) ?_
  rintro us s1 ⟨vs, H1, I1, r, q⟩
  exact ⟨I1.kIn, run_g F hgd hr hb hd hx I1 r q⟩
end

/-! ### numbers -/
section
variable {X : Cx}
/-- ** of a base of at most b bits with a written exponent -/
def CPowW (i j : Int) : Prop := 0 ≤ j ∧ (Builtin.Int.intBits i : Int) * j ≤ 2 ^ 27
theorem op_powW : OpR X (binaryOp .Pow) (rI CPowW fun i j => .int (i ^ j.toNat)) := opI fun _ _ _ _ _ _ _ hc q => PyProof.Rows.pow_int hc.1 hc.2 q
end
theorem wide_pow {i j : Int} {b : Nat} (h : i.natAbs < 2 ^ b) (h0 : 0 ≤ j) (hb : ((b : Int) + 1) * j ≤ 2 ^ 27) : CPowW i j := by
  have hle : Builtin.Int.intBits i ≤ b + 1 := by
    unfold Builtin.Int.intBits
    split
    · omega
    · rename_i hz
      by_cases hb0 : b = 0
      · subst hb0
        have hz0 : i.natAbs = 0 := by simpa using h
        rw [hz0]
        decide
      · have hq : i.natAbs.log2 < b := PySem.Flt.log2_lt_of (Nat.pos_of_ne_zero hb0) h
        omega
  refine ⟨h0, Int.le_trans ?_ hb⟩
  exact Int.mul_le_mul_of_nonneg_right (by omega) h0
end HX

set_option Elab.async false
set_option linter.all false
set_option maxRecDepth 100000
namespace HX
open PySem PySem.Spec PyProof.Rows L2

/-! ### data at any depth that is tracked: none, bools, ints, texts, lists, tuples, the empty dict -/
mutual
inductive Dq (H : Hp) : V → PyData → Prop
  | non : Dq H .non .none
  | bl (b : Bool) : Dq H (.bl b) (.bool b)
  | int (i : Int) : Dq H (.int i) (.int i)
  | str (x : Str) : Dq H (.str x) (.str x)
  | lst {a : Addr} {xs : List V} {ds : List PyData} : Rd H a (.lst xs) → DqAll H xs ds → Dq H (.ref a) (.list ds)
  | tup {a : Addr} {xs : List V} {ds : List PyData} : Rd H a (.tup xs) → DqAll H xs ds → Dq H (.ref a) (.tuple ds)
  | dic {a : Addr} : H a = some (.dK []) → Dq H (.ref a) (.dict [])
inductive DqAll (H : Hp) : List V → List PyData → Prop
  | nil : DqAll H [] []
  | cons {v : V} {vs : List V} {d : PyData} {ds : List PyData} : Dq H v d → DqAll H vs ds → DqAll H (v :: vs) (d :: ds)
end

open Evl (Ex)
mutual
theorem Dq.ex {H H' : Hp} (e : Ex H H') : ∀ {v : V} {d : PyData}, Dq H v d → Dq H' v d
  | _, _, .non => .non
  | _, _, .bl b => .bl b
  | _, _, .int i => .int i
  | _, _, .str x => .str x
  | _, _, .lst h k => .lst (Evl.ex_rd e h) (DqAll.ex e k)
  | _, _, .tup h k => .tup (Evl.ex_rd e h) (DqAll.ex e k)
  | _, _, .dic h => .dic (e _ _ h)
theorem DqAll.ex {H H' : Hp} (e : Ex H H') : ∀ {vs : List V} {ds : List PyData}, DqAll H vs ds → DqAll H' vs ds
  | _, _, .nil => .nil
  | _, _, .cons h k => .cons (Dq.ex e h) (DqAll.ex e k)
end
theorem DqAll.len {H : Hp} : ∀ {vs : List V} {ds : List PyData}, DqAll H vs ds → vs.length = ds.length
  | _, _, .nil => rfl
  | _, _, .cons _ k => congrArg (· + 1) k.len
theorem DqAll.app {H : Hp} : ∀ {vs ws : List V} {ds es : List PyData}, DqAll H vs ds → DqAll H ws es → DqAll H (vs ++ ws) (ds ++ es)
  | _, _, _, _, .nil, k => k
  | _, _, _, _, .cons h t, k => .cons h (t.app k)
theorem DqAll.get {H : Hp} : ∀ {vs : List V} {ds : List PyData} {i : Nat} {v : V}, DqAll H vs ds → vs[i]? = some v → ∃ d, ds[i]? = some d ∧ Dq H v d
  | _, _, _, _, .nil, e => by simp at e
  | _, _, 0, _, .cons h _, e => by simp at e; subst e; exact ⟨_, rfl, h⟩
  | _, _, i + 1, v, .cons _ t, e => by
    obtain ⟨d, h1, h2⟩ := DqAll.get (i := i) (v := v) t (by simpa using e)
    exact ⟨d, by simpa using h1, h2⟩
theorem DqAll.one {H : Hp} {v : V} {d : PyData} (h : Dq H v d) : DqAll H [v] [d] := .cons h .nil
theorem DqAll.rep {H : Hp} {v : V} {d : PyData} (h : Dq H v d) : ∀ n, DqAll H (List.replicate n v) (List.replicate n d)
  | 0 => .nil
  | n + 1 => .cons h (DqAll.rep h n)
theorem DqAll.take {H : Hp} : ∀ {vs : List V} {ds : List PyData} (n : Nat), DqAll H vs ds → DqAll H (vs.take n) (ds.take n)
  | _, _, 0, _ => by simpa using DqAll.nil
  | _, _, _ + 1, .nil => by simpa using DqAll.nil
  | _, _, n + 1, .cons h t => by simpa using DqAll.cons h (t.take n)
theorem DqAll.drop {H : Hp} : ∀ {vs : List V} {ds : List PyData} (n : Nat), DqAll H vs ds → DqAll H (vs.drop n) (ds.drop n)
  | _, _, 0, k => by simpa using k
  | _, _, _ + 1, .nil => by simpa using DqAll.nil
  | _, _, n + 1, .cons h t => by simpa using t.drop n
/-- an object of data is none that changes: what changes is elsewhere -/
theorem dq_ne {H : Hp} {a : Addr} {o u : HO} (h : H a = some o) (k : Rd H a u) (d : o ≠ u) (f : ∀ ob, o ≠ .frz ob u) : False := by
  rcases k with k | ⟨ob, k⟩
  · exact d (Option.some.inj (h.symm.trans k))
  · exact f ob (Option.some.inj (h.symm.trans k))

mutual
theorem Dq.dp {K : PySem.W.Frag} {H : Hp} : ∀ {v : V} {d : PyData}, Dq H v d → d.hasDict = false → Dp K H v d
  | _, _, .non, _ => .non
  | _, _, .bl b, _ => .bl b
  | _, _, .int i, _ => .int i
  | _, _, .str x, _ => .str x
  | _, _, .lst h k, e => .lst (.inl h) (DqAll.dp k (by simpa [PyData.hasDict] using e))
  | _, _, .tup h k, e => .tup (.inl h) (DqAll.dp k (by simpa [PyData.hasDict] using e))
  | _, _, .dic h, e => by simp [PyData.hasDict] at e
theorem DqAll.dp {K : PySem.W.Frag} {H : Hp} : ∀ {vs : List V} {ds : List PyData}, DqAll H vs ds → PyData.hasDictAll ds = false → DpAll K H vs ds
  | _, _, .nil, _ => .nil
  | _, _, .cons h k, e => by
    simp only [PyData.hasDictAll, Bool.or_eq_false_iff] at e
    exact .cons (h.dp e.1) (k.dp e.2)
end

section
variable {X : Cx} {pins : List (Addr × Obj)} {σ : L2.St} {H : Hp} {s : Shared}
/-- an empty dict that is tracked, as the heap has it -/
theorem dic_at (I : Inv X pins σ H s) {a : Addr} (h : H a = some (.dK [])) : ∃ o n, s.heap.get? a = some o ∧ o.cls = .type "dict" ∧ o.data = .dict #[] n ∧ (a == sysModules) = false := by
  obtain ⟨_, hsys, vs, kv, o, es, ep, h1, h2, h3, h4⟩ := (show ObjOk X.prog X.w H s.heap a (.dK []) from I.hok a _ h)
  cases kv
  have he : es.toList = [] := List.length_eq_zero_iff.mp (by simpa using h4.2.1.length)
  have he2 : es = #[] := by cases es; simpa using he
  exact ⟨o, ep, h1, h2.1, by rw [← he2]; exact h3, hsys⟩
mutual
theorem Dq.rk (I : Inv X pins σ H s) : ∀ {d : PyData} {v : V} {u : Value}, Dq H v d → RelV v u → d.showable = true → d.shown.length ≤ sizeLine →
    ∃ as bs, Reads s.heap u d as ∧ ReadAtMost s.heap d.depth bs ∧ ReprK X.prog X.w bs s.heap d.depth u d.shown
  | _, _, _, .non, r, _, _ => by cases r; exact ⟨_, [], Reads.none, (fun _ h => nomatch h), by simp only [PyData.shown]; exact .of_is ReprIs.none _ _ _⟩
  | _, _, _, .bl b, r, _, _ => by cases r; exact ⟨_, [], Reads.bool b, (fun _ h => nomatch h), by simp only [PyData.shown]; exact .of_is (ReprIs.bool b) _ _ _⟩
  | _, _, _, .int i, r, hs, _ => by
    obtain ⟨t, rfl⟩ := r
    exact ⟨_, [], Reads.int i t, (fun _ h => nomatch h), by simp only [PyData.shown]; exact .of_is (ReprIs.int t (by simpa [PyData.showable] using hs)) _ _ _⟩
  | _, _, _, .str x, r, _, hz => by
    obtain ⟨t, rfl⟩ := r
    exact ⟨_, [], Reads.str x t, (fun _ h => nomatch h), by simp only [PyData.shown]; exact .of_is (ReprIs.str x t (by simpa only [PyData.shown] using hz)) _ _ _⟩
  | _, _, _, .lst (a := a) (ds := ds) hs ha, r, hw, hz => by
    cases r
    have hz' : (listText (PyData.shownAll ds)).length ≤ sizeLine := by simpa only [PyData.shown] using hz
    obtain ⟨its, rv, ⟨o, n, ho, hc, _, hd⟩, _⟩ := I.list (X := X) (Or.inl hs)
    obtain ⟨as, bs, hr, hb, hk⟩ := DqAll.rk I ha rv (by simpa [PyData.showable] using hw) (fun t ht => Nat.le_trans (listText_mem_le ht) hz')
    have r : Reads s.heap (.ref a) (.list ds) _ := .list ho hc hd (by simpa using hr)
    have hna : a ∉ bs := not_mem_of_deeper r (by simp only [PyData.depth]; omega) hb
    refine ⟨_, a :: bs, r, ReadAtMost.cons r (by simp only [PyData.depth]; omega) hb, ?_⟩
    simp only [PyData.depth, PyData.shown]
    cases its with
    | nil =>
      cases hr
      simp only [PyData.shownAll, listText_nil]
      exact ReprK.listEmpty ho hc hd
    | cons x l => exact ReprK.list ho hc hd hna (by simpa using hk.length_eq) (fun i y e => hk.item i y (by simpa using e))
  | _, _, _, .tup (a := a) (ds := ds) hs ha, r, hw, hz => by
    cases r
    have hz' : (tupleText (PyData.shownAll ds)).length ≤ sizeLine := by simpa only [PyData.shown] using hz
    obtain ⟨its, rv, ⟨o, ho, hc, n, hd⟩, _⟩ := I.tuple (X := X) (Or.inl hs)
    obtain ⟨as, bs, hr, hb, hk⟩ := DqAll.rk I ha rv (by simpa [PyData.showable] using hw) (fun t ht => Nat.le_trans (tupleText_mem_le ht) hz')
    have r : Reads s.heap (.ref a) (.tuple ds) _ := .tuple ho hc hd (by simpa using hr)
    have hna : a ∉ bs := not_mem_of_deeper r (by simp only [PyData.depth]; omega) hb
    refine ⟨_, a :: bs, r, ReadAtMost.cons r (by simp only [PyData.depth]; omega) hb, ?_⟩
    simp only [PyData.depth, PyData.shown]
    exact ReprK.tuple ho hc hd hna (by simpa using hk)
  | _, _, _, .dic (a := a) ha, r, _, _ => by
    cases r
    obtain ⟨o, n, ho, hc, hd, hsys⟩ := dic_at I ha
    have r : Reads s.heap (.ref a) (.dict []) _ := .dict (kvs := []) ho hc hd .nil .nil
    refine ⟨_, [a], r, ReadAtMost.cons r (Nat.le_refl _) (fun _ h => nomatch h), ?_⟩
    simp only [PyData.depth, PyData.shown, PyData.shownKv]
    exact ReprK.dict ho hc hd hsys (by simp) .nil
theorem DqAll.rk (I : Inv X pins σ H s) : ∀ {ds : List PyData} {vs : List V} {us : List Value}, DqAll H vs ds → Vals vs us → PyData.showableAll ds = true → (∀ t ∈ PyData.shownAll ds, t.length ≤ sizeLine) →
    ∃ as bs, ReadsAll s.heap us ds as ∧ ReadAtMost s.heap (PyData.depthAll ds) bs ∧ ReprAllK X.prog X.w bs s.heap (PyData.depthAll ds) us (PyData.shownAll ds)
  | _, _, _, .nil, r, _, _ => by cases r; exact ⟨_, [], ReadsAll.nil, (fun _ h => nomatch h), by simp only [PyData.shownAll]; exact .nil⟩
  | _, _, _, .cons (d := d) (ds := ds) h1 h2, r, hw, hz => by
    cases r with
    | cons r1 r2 =>
      have hw' : d.showable = true ∧ PyData.showableAll ds = true := by simpa [PyData.showableAll] using hw
      obtain ⟨as, b1, q1, z1, k1⟩ := Dq.rk I h1 r1 hw'.1 (hz _ (by simp only [PyData.shownAll]; exact List.mem_cons_self))
      obtain ⟨cs, b2, q2, z2, k2⟩ := DqAll.rk I h2 r2 hw'.2 (fun t ht => hz t (by simp only [PyData.shownAll]; exact List.mem_cons_of_mem _ ht))
      refine ⟨_, b1 ++ b2, ReadsAll.cons q1 q2, ?_, ?_⟩
      · simp only [PyData.depthAll]
        exact (z1.mono (Nat.le_max_left _ _)).append (z2.mono (Nat.le_max_right _ _))
      · simp only [PyData.depthAll, PyData.shownAll]
        exact .cons ((k1.more fun b hb => List.mem_append_left _ hb).level_le (Nat.le_max_left _ _)) (k2.more_le (fun b hb => List.mem_append_right _ hb) (Nat.le_max_right _ _))
end
end

/-! ### repr of data -/
/-- what is asked of data that is shown: its ints are no giants, its text is not too long, it is not too deep -/
def Shw (d : PyData) : Prop := d.showable = true ∧ d.shown.length ≤ sizeLine ∧ d.depth ≤ 60
def rRepr : List V → Hp → VK → Prop := fun xs H Q => ∃ x d, xs = [x] ∧ Dq H x d ∧ Shw d ∧ Q (.str d.shown) H
section
variable {X : Cx}
theorem call_repr (hgd : X.A.guards = some []) (hu : X.A.units + 64 < cLine) : CallR X (.builtin "repr") rRepr := by
  intro pins s σ H xs us Q I r h
  obtain ⟨x, d, rfl, hd, ⟨hs, hz, hdp⟩, q⟩ := h
  obtain ⟨u, rfl, rx⟩ := vals1 r
  have fin : ∀ (h' : Heap) (u : Tok) (tk : Nat), (∀ b o, s.heap.get? b = some o → h'.get? b = some o) → EP X pins σ Q (.str d.shown u) { s with heap := h', toks := tk } :=
    fun h' u tk hk => ⟨.str d.shown, H, I.kept hk, ⟨_, rfl⟩, q⟩
  cases hd with
  | non => cases rx; exact PySem.P.repr_of_none (by simpa [PyData.shown] using fin s.heap _ _ fun _ _ e => e)
  | bl b => cases rx; exact PySem.P.repr_of_bool (by simpa [PyData.shown] using fin s.heap _ _ fun _ _ e => e)
  | int i => obtain ⟨t, rfl⟩ := rx; exact PySem.P.repr_of_int (by simpa [PyData.showable] using hs) (by simpa [PyData.shown] using fin s.heap _ _ fun _ _ e => e)
  | str y => obtain ⟨t, rfl⟩ := rx; exact PySem.P.repr_of_str (by simpa [PyData.shown] using fin s.heap _ _ fun _ _ e => e) (by simpa [PyData.shown] using hz)
  | lst h1 h2 =>
    rename_i a xs ds
    cases rx
    have hz' : (listText (PyData.shownAll ds)).length ≤ sizeLine := by simpa only [PyData.shown] using hz
    obtain ⟨its, rv, ⟨o, n, ho, hc, _, hd⟩, _⟩ := I.list (X := X) (Or.inl h1)
    obtain ⟨as, bs, hr, hb, hk⟩ := DqAll.rk I h2 rv (by simpa [PyData.showable] using hs) (fun t ht => Nat.le_trans (listText_mem_le ht) hz')
    have hna : a ∉ bs := not_mem_of_deeper (.list ho hc hd (by simpa using hr)) (by simp only [PyData.depth]; omega) hb
    simp only [PyData.depth] at hdp
    simp only [PyData.shown] at fin
    refine call_repr_slot (by omega) ⟨o, ho, hc⟩ F.slot_list_repr.toG ?_
    cases its with
    | nil =>
      cases hr
      simp only [PyData.shownAll, listText_nil] at fin
      exact call_list_repr_empty ⟨o, ho, hc⟩ ho hd ⟨_, _, rfl, fin s.heap _ _ fun _ _ e => e⟩
    | cons x l =>
      exact call_list_reprK ho hc hd hna (by simpa using hk.length_eq) (fun i y e => hk.item i y (by simpa using e)) hgd (fun b _ => Clear.nil b) (by show X.A.units + 1 + _ < cLine; omega) (fun _ _ e => e)
        (fun h' u tk hk => ⟨_, _, rfl, fin h' u tk hk⟩) hz'
  | tup h1 h2 =>
    rename_i a xs ds
    cases rx
    have hz' : (tupleText (PyData.shownAll ds)).length ≤ sizeLine := by simpa only [PyData.shown] using hz
    obtain ⟨its, rv, ⟨o, ho, hc, n, hd⟩, _⟩ := I.tuple (X := X) (Or.inl h1)
    obtain ⟨as, bs, hr, hb, hk⟩ := DqAll.rk I h2 rv (by simpa [PyData.showable] using hs) (fun t ht => Nat.le_trans (tupleText_mem_le ht) hz')
    have hna : a ∉ bs := not_mem_of_deeper (.tuple ho hc hd (by simpa using hr)) (by simp only [PyData.depth]; omega) hb
    simp only [PyData.depth] at hdp
    simp only [PyData.shown] at fin
    exact call_repr_slot (by omega) ⟨o, ho, hc⟩ F.slot_tuple_repr
      (call_tuple_reprK ho hc hd hna (by simpa using hk) hgd (fun b _ => Clear.nil b) (by show X.A.units + 1 + _ < cLine; omega) (fun _ _ e => e) (fun h' u tk hk => ⟨_, _, rfl, fin h' u tk hk⟩) hz')
  | dic h1 =>
    cases rx
    obtain ⟨o, n, ho, hc, hd, hsys⟩ := dic_at I h1
    simp only [PyData.shown, PyData.shownKv] at fin hz
    exact call_repr_slot (by omega) ⟨o, ho, hc⟩ F.slot_dict_repr
      (call_dict_reprK (as := []) (d := 0) ho hc hd hsys (by simp) .nil hgd (fun b _ => Clear.nil b) (by show X.A.units + 1 + _ < cLine; omega) (fun _ _ e => e) (fun h' u tk hk => ⟨_, _, rfl, fin h' u tk hk⟩) hz)
end
end HX

set_option Elab.async false
set_option linter.all false
set_option maxRecDepth 100000
namespace HX
open PySem PySem.Spec PyProof.Rows L2

/-! ### the end of a law whose def is an FnG -/
section
variable {P : Program} {w : World} {K : PySem.W.Frag} {mg mb : Str → Option Value} {k : Nat} {fa a : Addr} {fd : FuncData} {x : Str} {sp : Sp} {s₁ : Shared} {vs : List Value} {ns : List Int}
/-- what is wanted of the law's call -/
def LawEnd (s₁ : Shared) : Result → Shared → Prop := fun r s' => r = .ok (.ret (.bool true)) ∧ OldK s₁.heap s'.heap ∧ s'.os = s₁.os ∧ AllBare s'.gens
/-- the tracked heap at the start: the script, or nothing -/
theorem law_from (KX : K.In s₁.heap) (hns : s₁.heap.Ns mainGlobals mg) (hb : s₁.heap.Ns builtinsNs mb) (hbb : ∀ x : Str, x ≠ "__name__" → mb x = bootBuiltins x) (hlim : s₁.heap.NoLimit) (hg : s₁.gens = #[])
    (hr : Room k callerA) (FF : ∀ base : Heap, K.In base → base.Ns mainGlobals mg → FnG P w K mg base CX0 k fa fd [x] sp) (hbind : ∀ (s : Shared) (u : Value), BindsTo s fd ⟨[u], []⟩ [(x, u)])
    (hsp : ∀ H : Hp, Only H → SqL K H a (ns.map V.int) → sp [.ref a] H (fun v _ => v = .bl true) fun _ _ _ => False)
    (H : Hp) (hO : Only H) (hS : SqL K H a (ns.map V.int)) (hok : HOk P w H s₁.heap) (hn : ∀ b o, s₁.heap.get? b = some o → H b ≠ none → o.cls = .type "list" ∧ ∃ its n, o.data = .seq its n) (hK : ∀ b o, K.lookup b = some o → H b = none) :
    codeAny (model P w) callerA (.call (.ref fa) ⟨[.ref a], []⟩) (LawEnd s₁) s₁ := by
  have up : ∀ {b : Addr} {m : Str → Option Value}, s₁.heap.Ns b m → (hidT s₁.heap H).Ns b m := by
    rintro b m ⟨o, es, ep, e, d, r⟩
    have hb0 : H b = none := by
      cases q : H b with
      | none => rfl
      | some u =>
        obtain ⟨_, its, n, z⟩ := hn b o e (by rw [q]; simp)
        rw [d] at z; cases z
    exact ⟨o, es, ep, hidT_get e hb0, d, r⟩
  have hKb : K.In (hidT s₁.heap H) := fun b o e => hidT_get (KX b o e) (hK b o e)
  obtain ⟨mc, l1, l2⟩ := hlim
  have hM : Mod K mg (hidT s₁.heap H) := ⟨hKb, up hns, ⟨mb, up hb, hbb⟩, mc, up l1, l2⟩
  have e0 : Env0 P w K mg (hidT s₁.heap H) callerA [] s₁ H :=
    { frames := rfl, mod := hM, bs := fun b o e => of_hidT e, bsz := Nat.le_of_eq (hidT_size _ _), funs := trivial, frf := fun b z => absurd (show b ∈ ([] : List Addr) from z) (by simp), hok := hok, bare := .of_eq hg }
  refine codeAny_mono ((FF _ hKb (up hns)).run callerA [] s₁ H ⟨[.ref a], []⟩ [.ref a] [.ref a] _ _ rfl hr e0 (hbind s₁ (.ref a)) (.cons rfl .nil) (hsp H hO hS)) ?_
  intro r s' h
  match r, h with
  | .error e, h => exact h.elim
  | .ok (.ret u), ⟨v, H', os, bare, un, hok', r', q⟩ =>
    have q' : v = .bl true := q
    subst q'
    cases (show u = Value.bool true from r')
    refine ⟨rfl, OldK.of_keep fun b o e => ?_, os, bare⟩
    rcases hO b with z | ⟨ob, xs, z⟩
    · exact un.keep b o e z (fun m => absurd (show b ∈ ([] : List Addr) from m) (by simp)) (by simp)
    · obtain ⟨e1, _⟩ := hok b _ z
      obtain ⟨e2, _⟩ := hok' b _ (un.frzs b ob _ z)
      rw [e] at e1; cases e1
      exact e2
theorem law_callG (KX : K.In s₁.heap) (hns : s₁.heap.Ns mainGlobals mg) (hb : s₁.heap.Ns builtinsNs mb) (hbb : ∀ x : Str, x ≠ "__name__" → mb x = bootBuiltins x) (hlim : s₁.heap.NoLimit) (hg : s₁.gens = #[])
    (ha : s₁.heap.get? a = some { cls := .type "list", data := .seq vs.toArray }) (hi : IntsAre vs ns) (hl : ns.length ≤ sizeLine)
    (hr : Room k callerA) (FF : ∀ base : Heap, K.In base → base.Ns mainGlobals mg → FnG P w K mg base CX0 k fa fd [x] sp) (hbind : ∀ (s : Shared) (u : Value), BindsTo s fd ⟨[u], []⟩ [(x, u)])
    (hsp : ∀ H : Hp, Only H → SqL K H a (ns.map V.int) → sp [.ref a] H (fun v _ => v = .bl true) fun _ _ _ => False) :
    codeAny (model P w) callerA (.call (.ref fa) ⟨[.ref a], []⟩) (LawEnd s₁) s₁ := by
  have rv := vals_ints hi
  have lenV := hi.length
  cases hk : K.lookup a with
  | some o =>
    have e := KX a o hk
    rw [ha] at e
    cases e
    have hS : SqL K (fun _ => none) a (ns.map V.int) := .inr ⟨_, vs.toArray, _, hk, rfl, rfl, rfl, by rw [List.size_toArray, lenV]; exact hl, by simpa using rv⟩
    exact law_from KX hns hb hbb hlim hg hr FF hbind hsp (fun _ => none) (fun _ => .inl rfl) hS (fun b u z => nomatch z) (fun b o _ z => absurd rfl z) (fun _ _ _ => rfl)
  | none =>
    let H : Hp := fun b => if b = a then some (.frz { cls := .type "list", data := .seq vs.toArray } (.lst (ns.map V.int))) else none
    have Ha : H a = some (.frz { cls := .type "list", data := .seq vs.toArray } (.lst (ns.map V.int))) := if_pos rfl
    have Hn : ∀ b, b ≠ a → H b = none := fun b z => if_neg z
    refine law_from KX hns hb hbb hlim hg hr FF hbind hsp H (fun b => ?_) (.inl (.inr ⟨_, Ha⟩)) (fun b u z => ?_) (fun b o e z => ?_) (fun b o e => ?_)
    · by_cases hb : b = a
      · subst hb; exact .inr ⟨_, _, Ha⟩
      · exact .inl (Hn b hb)
    · by_cases hb : b = a
      · subst hb
        rw [Ha] at z
        cases z
        exact ⟨ha, by rw [List.length_map]; exact hl, vs, _, rv, ha⟩
      · rw [Hn b hb] at z
        cases z
    · by_cases hb : b = a
      · subst hb
        rw [ha] at e
        cases e
        exact ⟨rfl, _, _, rfl⟩
      · exact absurd (Hn b hb) z
    · refine Hn b fun z => ?_
      subst z
      rw [hk] at e
      cases e
end
/-- as walk_ofK of the layer, for an FnG -/
theorem walk_G {l : PySem.W.OpenLaw} {n k : Nat} {q : Program} {loose : List Str} {XP : (Str → Option Value) → Heap → Prop} {YP : World → Heap → Prop} {d : DefRec} {K : Params → PySem.W.Frag} {sp : PySem.W.Frag → Sp} {x : Str}
    (hn : l.most = some n) (hn2 : n ≤ sizeLine) (hdf : d.params.defaults = []) (hr : Room k callerA) (hY : ∀ (w : World) (h : Heap), YP w h → (K w.params).In h)
    (FF : ∀ (w : World) (mg : Str → Option Value) (fa : Addr) (h : Heap), (K w.params).In h → h.Ns mainGlobals mg → mg d.name = some (.ref fa) →
      ∃ fd : FuncData, (∀ (s : Shared) (u : Value), BindsTo s fd ⟨[u], []⟩ [(x, u)]) ∧ ∀ base : Heap, (K w.params).In base → base.Ns mainGlobals mg → FnG l.prog w (K w.params) mg base CX0 k fa fd [x] (sp (K w.params)))
    (hsp : ∀ (K : PySem.W.Frag) (H : Hp) (a : Addr) (ns : List Int), ns.length ≤ n → Only H → SqL K H a (ns.map V.int) → sp K [.ref a] H (fun v _ => v = .bl true) fun _ _ _ => False) :
    PySem.W.WalkO q loose XP YP l.row.toRowW d [] (fun f vs => PySem.call f vs) := by
  refine Att.attach_call hn hdf fun w s₀ s₁ mg mb fa o pm cd doc a vs ns G Y ho hd hcd hmg hobj hints hlen hg => ?_
  obtain ⟨fd, hb, hF⟩ := FF w mg fa _ (hY w _ Y) G.T.g hmg
  exact law_callG (hY w _ Y) G.T.g G.T.b G.T.builtins G.T.nolimit hg hobj hints (Nat.le_trans hlen hn2) hr hF hb (fun H hO hS => hsp _ H a ns hlen hO hS)
end HX

set_option Elab.async false
set_option linter.all false
set_option maxRecDepth 100000
namespace HX
open PySem PySem.Spec PyProof.Rows L2
open Evl (Ex)

/-! ### a def of the module, called by its name -/
def Has (P : Program) (w : World) (K : PySem.W.Frag) (mg : Str → Option Value) (base : Heap) (k : Nat) (x : Str) (sp : Sp) : Prop :=
  ∃ (f : Addr) (fd : FuncData) (ps : List Str), FnOk P w K mg base CX0 k f fd ps sp ∧ mg x = some (.ref f) ∧ PySem.W.keepIn K (.ref f) = true ∧ Binds K fd ps []
def HasG (P : Program) (w : World) (K : PySem.W.Frag) (mg : Str → Option Value) (base : Heap) (k : Nat) (x : Str) (sp : Sp) : Prop :=
  ∃ (f : Addr) (fd : FuncData) (ps : List Str), FnG P w K mg base CX0 k f fd ps sp ∧ mg x = some (.ref f) ∧ PySem.W.keepIn K (.ref f) = true ∧ Binds K fd ps []
section
variable {X : Cx} {k n : Nat} {sp : Sp} {x : Str} {p pos : Pos} {e : Expr} {es : List Expr} {t : TA}
theorem pe_hs (h : Has X.prog X.w X.K X.mg X.base k x sp) (hr : Room n X.A) (hg : Gl X x) (ha : PA X (e :: es) t) (hkn : k ≤ n := by decide) (hdb : (x == ("__debug__" : Str)) = false := by decide)
    (he : starEach (e :: es) X.env = (false, eval e X.env) :: starEach es X.env := by rfl) (hpl : (backTo pos (starEach es X.env)).any (·.1) = false := by rfl) :
    PE X (.Call (.Name x p) (e :: es) [] pos) (tCall sp [] E0 t) := by
  obtain ⟨f, fd, ps, F, hm, hk, hb⟩ := h
  exact pe_call F (hr.mono hkn) hg hm hk hb .nil pass0 ha hdb he hpl
theorem pe_hsG (h : HasG X.prog X.w X.K X.mg X.base k x sp) (hgd : X.A.guards = some []) (hr : Room n X.A) (hg : Gl X x) (ha : PA X (e :: es) t) (hkn : k ≤ n := by decide) (hdb : (x == ("__debug__" : Str)) = false := by decide)
    (he : starEach (e :: es) X.env = (false, eval e X.env) :: starEach es X.env := by rfl) (hpl : (backTo pos (starEach es X.env)).any (·.1) = false := by rfl) :
    PE X (.Call (.Name x p) (e :: es) [] pos) (tCall sp [] E0 t) := by
  obtain ⟨f, fd, ps, F, hm, hk, hb⟩ := h
  exact pe_callG F hgd (hr.mono hkn) hg hm hk hb .nil pass0 ha hdb he hpl
end

/-! ### objects that turn (a jar, a list that grows), all else stands -/
def hid (S : List Addr) (H : Hp) : Hp := fun b => if b ∈ S then none else H b
theorem hid_ne {S : List Addr} {b : Addr} {H : Hp} (h : b ∉ S) : hid S H b = H b := if_neg h
theorem hid_upd {S : List Addr} {j : Addr} {H : Hp} {o : HO} (hj : j ∈ S) : hid S (upd H j o) = hid S H := by
  funext b
  unfold hid
  by_cases h : b ∈ S
  · rw [if_pos h, if_pos h]
  · rw [if_neg h, if_neg h, upd_ne (fun z => h (by rw [z]; exact hj))]
theorem hid_some {S : List Addr} {H : Hp} {b : Addr} {o : HO} (e : hid S H b = some o) : b ∉ S ∧ H b = some o := by
  unfold hid at e
  by_cases h : b ∈ S
  · rw [if_pos h] at e; cases e
  · rw [if_neg h] at e; exact ⟨h, e⟩
theorem hid_ex {S : List Addr} {H : Hp} : Ex (hid S H) H := fun b o e => (hid_some e).2
theorem hid_sub {S T : List Addr} {H : Hp} (h : ∀ b, b ∈ T → b ∈ S) : Ex (hid S H) (hid T H) := fun b o e => by
  obtain ⟨h1, h2⟩ := hid_some e
  rw [hid_ne fun z => h1 (h b z)]
  exact h2
theorem hid_free {S : List Addr} {p : Addr} {H : Hp} (h : H p = none) : hid S H p = none := by
  unfold hid
  split
  · rfl
  · exact h
/-- a step that may turn the objects of S and lays new ones -/
abbrev Jx (S : List Addr) (H H' : Hp) : Prop := Ex (hid S H) (hid S H')
theorem Jx.of {S : List Addr} {H H' : Hp} (e : Ex H H') : Jx S H H' := fun b o q => by
  obtain ⟨h1, h2⟩ := hid_some q
  rw [hid_ne h1]
  exact e b o h2
theorem Jx.upd {S : List Addr} {j : Addr} {H : Hp} {o : HO} (hj : j ∈ S) : Jx S H (upd H j o) := by
  show Ex (hid S H) (hid S (L2.upd H j o))
  rw [hid_upd hj]
  exact Ex.refl _
theorem Jx.refl {S : List Addr} (H : Hp) : Jx S H H := Ex.refl _
theorem Jx.tr {S : List Addr} {H H1 H2 : Hp} (a : Jx S H H1) (b : Jx S H1 H2) : Jx S H H2 := Ex.trans a b
theorem Jx.new {S : List Addr} {p : Addr} {H : Hp} {o : HO} (h : H p = none) : Jx S H (L2.upd H p o) := Jx.of (Ex.new h)
/-- hiding more -/
theorem Jx.more {S T : List Addr} {H H' : Hp} (e : Jx S H H') (h : ∀ b, b ∈ S → b ∈ T) : Jx T H H' := fun b o q => by
  obtain ⟨h1, h2⟩ := hid_some q
  have := e b o (by rw [hid_ne fun z => h1 (h b z)]; exact h2)
  rw [hid_ne h1]
  exact (hid_some this).2
/-- what was not there need not be hidden -/
theorem Jx.less {S : List Addr} {l : Addr} {H H' : Hp} (e : Jx (l :: S) H H') (h : H l = none) : Jx S H H' := fun b o q => by
  obtain ⟨h1, h2⟩ := hid_some q
  have hb : b ∉ l :: S := fun z => by
    rcases List.mem_cons.mp z with rfl | z
    · rw [h] at h2; cases h2
    · exact h1 z
  have := e b o (by rw [hid_ne hb]; exact h2)
  rw [hid_ne h1]
  exact (hid_some this).2
theorem Jx.get {S : List Addr} {p : Addr} {H H' : Hp} {o : HO} (e : Jx S H H') (h : H p = some o) (hp : p ∉ S) : H' p = some o :=
  (hid_some (e p o (by rw [hid_ne hp]; exact h))).2
theorem Jx.dq {S : List Addr} {H H' : Hp} {v : V} {d : PyData} (e : Jx S H H') (h : Dq (hid S H) v d) : Dq (hid S H') v d := h.ex e
theorem Jx.dqa {S : List Addr} {H H' : Hp} {v : List V} {d : List PyData} (e : Jx S H H') (h : DqAll (hid S H) v d) : DqAll (hid S H') v d := h.ex e
theorem fresh_ne {H : Hp} {p q : Addr} {o : HO} (h : H q = some o) (hp : H p = none) : p ≠ q := fun z => by rw [z, h] at hp; cases hp
theorem nin1 {p j : Addr} (h : p ≠ j) : p ∉ [j] := by simp [h]
theorem nin2 {p l j : Addr} (h1 : p ≠ l) (h2 : p ≠ j) : p ∉ [l, j] := by simp [h1, h2]

end HX

namespace HX
open PySem PySem.Spec PyProof.Rows L2
open Evl (Ex)
/-! ### pieces of readings, to be applied one by one -/
section
variable {K : PySem.W.Frag} {H : Hp} {Q : VK} {j : Addr} {xs : List V} {i : Int} {v : V} {σ : L2.St}
theorem go_ixL (hj : Rd H j (.lst xs)) (hi : atI xs i = some v) (q : Q v H) : rIxL K (.ref j) (.int i) H Q := ⟨j, xs, i, v, rfl, rfl, .inl hj, hi, q⟩
theorem go_ixT (hj : Rd H j (.tup xs)) (hi : atI xs i = some v) (q : Q v H) : rIxT K (.ref j) (.int i) H Q := ⟨j, xs, i, v, rfl, rfl, .inl hj, hi, q⟩
theorem go_ixL' (hj : SqL K H j xs) (hi : atI xs i = some v) (q : Q v H) : rIxL K (.ref j) (.int i) H Q := ⟨j, xs, i, v, rfl, rfl, hj, hi, q⟩
theorem go_ixT' (hj : SqT K H j xs) (hi : atI xs i = some v) (q : Q v H) : rIxT K (.ref j) (.int i) H Q := ⟨j, xs, i, v, rfl, rfl, hj, hi, q⟩
theorem go_setL {n : Nat} {q : Hp → Prop} (hj : H j = some (.lst xs)) (hi : ixN xs.length i = some n) (k : q (upd H j (.lst (xs.set n v)))) : rSetL (.ref j) (.int i) v H q := ⟨j, xs, i, n, rfl, rfl, hj, hi, k⟩
/-- a value is handed on, told by what holds of it -/
theorem cut_e {te : TE} (R : V → Hp → Prop) (h : ∀ Q' : VK, (∀ v H', R v H' → Q' v H') → te σ H Q') (k : ∀ v H', R v H' → Q v H') : te σ H Q := h Q k
/-- a statement, then the rest -/
theorem cut_s {t u : TS} {D : Ends} (M : L2.St → Hp → Prop) (h : ∀ D' : Ends, D'.rt = D.rt → D'.bk = D.bk → D'.ct = D.ct → (∀ σ' H', M σ' H' → D'.nx σ' H') → t D' σ H) (k : ∀ σ' H', M σ' H' → u D σ' H') : tSeq t u D σ H :=
  h { D with nx := u D } rfl rfl rfl k
end
end HX

set_option Elab.async false
set_option linter.all false
set_option maxRecDepth 100000
namespace HX
open PySem PySem.Spec PyProof.Rows L2
open Evl (Ex)
/-! ### the connectives of readings, opened one by one -/
section
variable {K : PySem.W.Frag} {H : Hp} {Q : VK} {QA : List V → Hp → Prop} {QT : Bool → Hp → Prop} {QS : L2.St → Hp → Prop} {v x y : V} {σ : L2.St} {ta tb te tc : TE} {t u : TT} {tr : TA} {D : Ends} {t1 t2 : TS} {g : TG} {i j : Nat} {r r' : R2} {a b : Int} {c : Bool}
theorem go_var (h : σ[i]? = some (some v)) (q : Q v H) : tVar i σ H Q := ⟨v, h, q⟩
theorem go_c (q : Q v H) : tC v σ H Q := q
theorem go_op (h : ta σ H fun x H1 => tb σ H1 fun y H2 => r x y H2 Q) : tOp r ta tb σ H Q := h
theorem go_un {r : V → Hp → VK → Prop} (h : ta σ H fun x H1 => r x H1 Q) : tUn r ta σ H Q := h
theorem go_if (h : t σ H fun c H1 => if c = true then ta σ H1 Q else tb σ H1 Q) : tIf t ta tb σ H Q := h
theorem go_test (h : te σ H fun x H' => ∃ k, x = .bl k ∧ QT k H') : tTest te σ H QT := h
theorem go_B (h : te σ H fun x H1 => ∃ c, x = .bl c ∧ QT c H1) : tB te σ H QT := h
theorem go_bl (q : QT c H) : ∃ k, V.bl c = V.bl k ∧ QT k H := ⟨c, rfl, q⟩
theorem go_not (h : t σ H fun c H1 => QT (!c) H1) : tNot t σ H QT := h
theorem go_and (h : t σ H fun c H1 => if c = true then u σ H1 QT else QT false H1) : tAnd t u σ H QT := h
theorem go_or (h : t σ H fun c H1 => if c = true then QT true H1 else u σ H1 QT) : tOr t u σ H QT := h
theorem go_andV (h : ta σ H fun x H1 => ∃ c, x = .bl c ∧ if c = true then tb σ H1 Q else Q (.bl false) H1) : tAndV ta tb σ H Q := h
theorem go_orV (h : ta σ H fun x H1 => ∃ c, x = .bl c ∧ if c = true then Q (.bl true) H1 else tb σ H1 Q) : tOrV ta tb σ H Q := h
theorem go_notV (h : ta σ H fun x H1 => ∃ c, x = .bl c ∧ Q (.bl (!c)) H1) : tNotV ta σ H Q := h
theorem go_chain (h : ta σ H fun x H1 => tb σ H1 fun y H2 => r x y H2 fun z H3 => ∃ k, z = .bl k ∧ (if k = true then tc σ H3 fun w' H4 => r' y w' H4 Q else Q (.bl false) H3)) : tChain r r' ta tb tc σ H Q := h
theorem go_nil (q : QA [] H) : tNil σ H QA := q
theorem go_cons (h : ta σ H fun x H1 => tr σ H1 fun xs H2 => QA (x :: xs) H2) : tCons ta tr σ H QA := h
theorem go_cb {rc : List V → Hp → VK → Prop} (h : tr σ H fun vs H1 => rc vs H1 Q) : tCB rc tr σ H Q := h
theorem go_call {sp : Sp} {dvs : List V} {E : XK} (h : tr σ H fun vs H1 => sp (vs ++ dvs) H1 Q E) : tCall sp dvs E tr σ H Q := h
theorem go_tup (h : tr σ H fun xs H1 => xs.length ≤ sizeLine ∧ ∀ p, H1 p = none → Q (.ref p) (upd H1 p (.tup xs))) : tTup tr σ H Q := h
theorem go_lst (h : tr σ H fun xs H1 => xs.length ≤ sizeLine ∧ ∀ p, H1 p = none → Q (.ref p) (upd H1 p (.lst xs))) : tLst tr σ H Q := h
theorem go_asg (h : te σ H fun x H1 => g x σ H1 D.nx) : tAsg te g D σ H := h
theorem go_name (h : QS (σ.set i (some v)) H) : gName i v σ H QS := h
theorem go_sub {to ti : TE} {ts : TSet} (h : to σ H fun o H1 => ti σ H1 fun i H2 => ts o i v H2 fun H3 => QS σ H3) : gSub to ti ts v σ H QS := h
theorem go_seq (h : t1 { D with nx := t2 D } σ H) : tSeq t1 t2 D σ H := h
theorem go_ret (h : te σ H D.rt) : tRet te D σ H := h
theorem go_retN (h : D.rt .non H) : tRetN D σ H := h
theorem go_drop (h : te σ H fun _ H1 => D.nx σ H1) : tDrop te D σ H := h
theorem go_next (h : D.nx σ H) : tNext D σ H := h
theorem go_brk (h : D.bk σ H) : tBreak D σ H := h
theorem go_cont (h : D.ct σ H) : tCont D σ H := h
theorem go_ifS (h : t σ H fun b H1 => if b = true then t1 D σ H1 else t2 D σ H1) : tIfS t t1 t2 D σ H := h
theorem go_par (h : tr σ H fun vs H1 => ∃ v w, vs = [v, w] ∧ D.nx ((σ.set i (some v)).set j (some w)) H1) : tPar i j tr D σ H := h
theorem go_par2 {P : V → V → Prop} (h : P x y) : ∃ v w, [x, y] = [v, w] ∧ P v w := ⟨x, y, rfl, h⟩
theorem go_bm {T : String} {rb : V → List V → Hp → VK → Prop} (h : ta σ H fun x H1 => tyV K T x H1 ∧ tr σ H1 fun xs H2 => rb x xs H2 Q) : tBM K T rb ta tr σ H Q := h
theorem go_I0 {f : Int → Int → V} (q : Q (f a b) H) : rI0 f (.int a) (.int b) H Q := ⟨a, b, rfl, rfl, q⟩
theorem go_I {C : Int → Int → Prop} {f : Int → Int → V} (hc : C a b) (q : Q (f a b) H) : rI C f (.int a) (.int b) H Q := ⟨a, b, rfl, rfl, hc, q⟩
theorem go_U {f : Int → V} (q : Q (f a) H) : rU f (.int a) H Q := ⟨a, rfl, q⟩
theorem go_eq (h : scal x y = true) (q : Q (.bl (decide (x = y))) H) : rEq x y H Q := ⟨h, q⟩
theorem go_ne (h : scal x y = true) (q : Q (.bl (!decide (x = y))) H) : rNe x y H Q := ⟨h, q⟩
theorem go_isN (q : Q (.bl (decide (x = .non))) H) : rIsN x .non H Q := ⟨rfl, q⟩
theorem go_notN (q : Q (.bl (!decide (x = .non))) H) : rNotN x .non H Q := ⟨rfl, q⟩
theorem go_app {l : Addr} {xs : List V} (h : H l = some (.lst xs)) (hz : xs.length < sizeLine) (q : Q .non (upd H l (.lst (xs ++ [y])))) : rAppend (.ref l) [y] H Q := ⟨l, xs, y, rfl, rfl, h, hz, q⟩
theorem go_tyL {l : Addr} {xs : List V} (h : H l = some (.lst xs)) {P : Prop} (q : P) : tyV K "list" (.ref l) H ∧ P := ⟨.inl ⟨rfl, _, SqL.of h⟩, q⟩
theorem go_cat {l m : Addr} {xs zs : List V} (h1 : H l = some (.lst xs)) (h2 : H m = some (.lst zs)) (hz : xs.length + zs.length ≤ sizeLine) (q : ∀ p, H p = none → Q (.ref p) (upd H p (.lst (xs ++ zs)))) : rCat (.ref l) (.ref m) H Q :=
  ⟨l, m, xs, zs, rfl, rfl, h1, h2, hz, q⟩
theorem go_rep {l : Addr} {xs : List V} {k : Int} (h1 : H l = some (.lst xs)) (h2 : -(2 ^ 63) ≤ k ∧ k < 2 ^ 63) (hz : xs.length * k.toNat ≤ sizeLine) (q : ∀ p, H p = none → Q (.ref p) (upd H p (.lst (List.replicate k.toNat xs).flatten))) : rRep (.ref l) (.int k) H Q :=
  ⟨l, k, xs, rfl, rfl, h1, h2.1, h2.2, hz, q⟩
end
/-! ### built-ins by name -/
def rLenQ (K : PySem.W.Frag) : List V → Hp → VK → Prop := fun xs H Q => ∃ p ys, xs = [.ref p] ∧ (SqL K H p ys ∨ SqT K H p ys) ∧ Q (.int ys.length) H
def rAbsQ : List V → Hp → VK → Prop := fun xs H Q => ∃ i, xs = [.int i] ∧ Q (.int (if i < 0 then -i else i)) H
def rMaxQ : List V → Hp → VK → Prop := fun xs H Q => ∃ i j, xs = [.int i, .int j] ∧ Q (.int (if j > i then j else i)) H
def rMinQ : List V → Hp → VK → Prop := fun xs H Q => ∃ i j, xs = [.int i, .int j] ∧ Q (.int (if j < i then j else i)) H
def rIntQ : List V → Hp → VK → Prop := fun xs H Q => (∃ i, xs = [.int i] ∧ Q (.int i) H) ∨ ∃ k, xs = [.bl k] ∧ Q (.int (if k then 1 else 0)) H
section
variable {X : Cx}
theorem call_lenQ : CallR X (.builtin "len") (rLenQ X.K) := call_len_seq
theorem call_absQ : CallR X (.builtin "abs") rAbsQ := call_abs
theorem call_maxQ (hc : X.calm = true) : CallR X (.builtin "max") rMaxQ := call_max2 hc
theorem call_minQ (hc : X.calm = true) : CallR X (.builtin "min") rMinQ := call_min2 hc
theorem call_intQ : CallR X (.type "int") rIntQ := call_int1
end
section
variable {K : PySem.W.Frag} {H : Hp} {Q : VK} {p : Addr} {ys : List V} {i j : Int} {b : Bool}
theorem go_lenL (h : Rd H p (.lst ys)) (k : Q (.int ys.length) H) : rLenQ K [.ref p] H Q := ⟨p, ys, rfl, .inl (.inl h), k⟩
theorem go_lenT (h : Rd H p (.tup ys)) (k : Q (.int ys.length) H) : rLenQ K [.ref p] H Q := ⟨p, ys, rfl, .inr (.inl h), k⟩
theorem go_lenS (h : SqL K H p ys) (k : Q (.int ys.length) H) : rLenQ K [.ref p] H Q := ⟨p, ys, rfl, .inl h, k⟩
theorem go_abs (k : Q (.int (if i < 0 then -i else i)) H) : rAbsQ [.int i] H Q := ⟨i, rfl, k⟩
theorem go_max (k : Q (.int (if j > i then j else i)) H) : rMaxQ [.int i, .int j] H Q := ⟨i, j, rfl, k⟩
theorem go_min (k : Q (.int (if j < i then j else i)) H) : rMinQ [.int i, .int j] H Q := ⟨i, j, rfl, k⟩
theorem go_int (k : Q (.int i) H) : rIntQ [.int i] H Q := .inl ⟨i, rfl, k⟩
theorem go_intB (k : Q (.int (if b then 1 else 0)) H) : rIntQ [.bl b] H Q := .inr ⟨b, rfl, k⟩
end
/-- a slot is read -/
theorem wide1 {b : Int} (h0 : 0 < b) (h : b < 2 ^ 400) {a : Int} : CDivW a b := wide_div (b := 400) h0 (by omega) (by decide) (by decide)
end HX
namespace HX
open PySem L2
theorem go_new {n : Nat} {R : Prop} (h : n ≤ sizeLine) (k : R) : n ≤ sizeLine ∧ R := ⟨h, k⟩
end HX
namespace HX
open PySem PySem.Spec PyProof.Rows L2
open Evl (Ex)
/-! ### loops -/
section
variable {K : PySem.W.Frag} {H : Hp} {Q : VK} {σ : L2.St} {ta : TA} {tl te : TE} {tt : TT} {D : Ends} {tb : TS} {g : TG} {lo : Int} {n : Nat} {a : Addr} {xs : List V} {vs : List Nat}
def forR (lo : Int) (n : Nat) (g : TG) (tb : TS) : TS := tFor (fun _ H R => R (Itr lo n) H) g tb
def forL (K : PySem.W.Frag) (a : Addr) (g : TG) (tb : TS) : TS := tFor (fun _ H R => R (Itl K a) H) g tb
def forT (K : PySem.W.Frag) (a : Addr) (g : TG) (tb : TS) : TS := tFor (fun _ H R => R (Itt K a) H) g tb
def forE (K : PySem.W.Frag) (a : Addr) (g : TG) (tb : TS) : TS := tFor (fun _ H R => R (Ite K a) H) g tb
theorem go_forR1 (h : ta σ H fun vs H1 => ∃ j : Int, vs = [.int j] ∧ -(2 ^ 62) ≤ j ∧ j < 2 ^ 62 ∧ forR 0 j.toNat g tb D σ H1) : tFor (iRng1 ta) g tb D σ H := h
theorem go_forR2 (h : ta σ H fun vs H1 => ∃ i j : Int, vs = [.int i, .int j] ∧ (-(2 ^ 62) ≤ i ∧ i < 2 ^ 62 ∧ -(2 ^ 62) ≤ j ∧ j < 2 ^ 62) ∧ forR i (j - i).toNat g tb D σ H1) : tFor (iRng2 ta) g tb D σ H := h
theorem go_forL (h : tl σ H fun x H1 => ∃ a, x = .ref a ∧ (∃ xs, SqL K H1 a xs) ∧ forL K a g tb D σ H1) : tFor (iList K tl) g tb D σ H := h
theorem go_forT (h : tl σ H fun x H1 => ∃ a, x = .ref a ∧ (∃ xs, SqT K H1 a xs) ∧ forT K a g tb D σ H1) : tFor (iTup K tl) g tb D σ H := h
theorem go_forE (h : ta σ H fun vs H1 => ∃ a xs, vs = [.ref a] ∧ SqL K H1 a xs ∧ forE K a g tb D σ H1) : tFor (iEnum K ta) g tb D σ H := h
theorem run_forR (Pv : Nat → L2.St → Hp → Prop) (h0 : Pv 0 σ H)
    (hs : ∀ i σ H, i < n → Pv i σ H → g (.int (lo + i)) σ H fun σ2 H2 => tb { D with nx := Pv (i + 1), ct := Pv (i + 1), bk := D.nx } σ2 H2) (hd : ∀ σ H, Pv n σ H → D.nx σ H) : forR lo n g tb D σ H := for_range Pv h0 hs hd
theorem run_forL (xs : List V) (Pv : Nat → L2.St → Hp → Prop) (h0 : Pv 0 σ H) (hl : ∀ i σ H, i ≤ xs.length → Pv i σ H → SqL K H a xs)
    (hs : ∀ i x σ H, xs[i]? = some x → Pv i σ H → g x σ H fun σ2 H2 => tb { D with nx := Pv (i + 1), ct := Pv (i + 1), bk := D.nx } σ2 H2) (hd : ∀ σ H, Pv xs.length σ H → D.nx σ H) : forL K a g tb D σ H := for_list Pv h0 hl hs hd
theorem run_forT (xs : List V) (Pv : Nat → L2.St → Hp → Prop) (h0 : Pv 0 σ H) (hl : ∀ i σ H, i ≤ xs.length → Pv i σ H → SqT K H a xs)
    (hs : ∀ i x σ H, xs[i]? = some x → Pv i σ H → g x σ H fun σ2 H2 => tb { D with nx := Pv (i + 1), ct := Pv (i + 1), bk := D.nx } σ2 H2) (hd : ∀ σ H, Pv xs.length σ H → D.nx σ H) : forT K a g tb D σ H := for_tup Pv h0 hl hs hd
/-- comprehensions -/
def lcR (lo : Int) (n : Nat) (g : TG) (tt : TT) (te : TE) (vs : List Nat) : TE := tLc (fun _ H R => R (Itr lo n) H) g tt te vs
def lcL (K : PySem.W.Frag) (a : Addr) (g : TG) (tt : TT) (te : TE) (vs : List Nat) : TE := tLc (fun _ H R => R (Itl K a) H) g tt te vs
def lcT (K : PySem.W.Frag) (a : Addr) (g : TG) (tt : TT) (te : TE) (vs : List Nat) : TE := tLc (fun _ H R => R (Itt K a) H) g tt te vs
theorem go_lcR1 (h : ta σ H fun us H1 => ∃ j : Int, us = [.int j] ∧ -(2 ^ 62) ≤ j ∧ j < 2 ^ 62 ∧ lcR 0 j.toNat g tt te vs σ H1 Q) : tLc (iRng1 ta) g tt te vs σ H Q := h
theorem go_lcL (h : tl σ H fun x H1 => ∃ a, x = .ref a ∧ (∃ xs, SqL K H1 a xs) ∧ lcL K a g tt te vs σ H1 Q) : tLc (iList K tl) g tt te vs σ H Q := h
theorem go_lcT (h : tl σ H fun x H1 => ∃ a, x = .ref a ∧ (∃ xs, SqT K H1 a xs) ∧ lcT K a g tt te vs σ H1 Q) : tLc (iTup K tl) g tt te vs σ H Q := h
/-- acc at D so far: Pv i acc H; what a turn appends -/
theorem run_lcR (Pv : Addr → Nat → Hp → Prop) (h0 : ∀ D, H D = none → Pv D 0 (upd H D (.lst [])))
    (hs : ∀ D i H, i < n → Pv D i H → g (.int (lo + i)) (wipe σ vs) H fun σ2 H2 => wipe σ2 vs = wipe σ vs ∧ tt σ2 H2 fun b H3 =>
      if b = true then te σ2 H3 fun y H4 => ∃ acc, H4 D = some (.lst acc) ∧ acc.length < sizeLine ∧ Pv D (i + 1) (upd H4 D (.lst (acc ++ [y]))) else Pv D (i + 1) H3) (hd : ∀ D H', H D = none → Pv D n H' → Q (.ref D) H') : lcR lo n g tt te vs σ H Q :=
  fun D hD => lc_range (Pv D) (h0 D hD) (hs D) fun H' p => hd D H' hD p
theorem run_lcL (xs : List V) (Pv : Addr → Nat → Hp → Prop) (h0 : ∀ D, H D = none → Pv D 0 (upd H D (.lst []))) (hl : ∀ D i H, i ≤ xs.length → Pv D i H → SqL K H a xs)
    (hs : ∀ D i x H, xs[i]? = some x → Pv D i H → g x (wipe σ vs) H fun σ2 H2 => wipe σ2 vs = wipe σ vs ∧ tt σ2 H2 fun b H3 =>
      if b = true then te σ2 H3 fun y H4 => ∃ acc, H4 D = some (.lst acc) ∧ acc.length < sizeLine ∧ Pv D (i + 1) (upd H4 D (.lst (acc ++ [y]))) else Pv D (i + 1) H3) (hd : ∀ D H', H D = none → Pv D xs.length H' → Q (.ref D) H') : lcL K a g tt te vs σ H Q :=
  fun D hD => lc_list (Pv D) (h0 D hD) (hl D) (hs D) fun H' p => hd D H' hD p
theorem run_lcT (xs : List V) (Pv : Addr → Nat → Hp → Prop) (h0 : ∀ D, H D = none → Pv D 0 (upd H D (.lst []))) (hl : ∀ D i H, i ≤ xs.length → Pv D i H → SqT K H a xs)
    (hs : ∀ D i x H, xs[i]? = some x → Pv D i H → g x (wipe σ vs) H fun σ2 H2 => wipe σ2 vs = wipe σ vs ∧ tt σ2 H2 fun b H3 =>
      if b = true then te σ2 H3 fun y H4 => ∃ acc, H4 D = some (.lst acc) ∧ acc.length < sizeLine ∧ Pv D (i + 1) (upd H4 D (.lst (acc ++ [y]))) else Pv D (i + 1) H3) (hd : ∀ D H', H D = none → Pv D xs.length H' → Q (.ref D) H') : lcT K a g tt te vs σ H Q :=
  fun D hD => lc_tup (Pv D) (h0 D hD) (hl D) (hs D) fun H' p => hd D H' hD p
end
end HX
namespace HX
open PySem PySem.Spec PyProof.Rows L2
theorem cut_t {tt : TT} {σ : L2.St} {H : Hp} {Q : Bool → Hp → Prop} (R : Bool → Hp → Prop) (h : ∀ Q' : Bool → Hp → Prop, (∀ b H', R b H' → Q' b H') → tt σ H Q') (k : ∀ b H', R b H' → Q b H') : tt σ H Q := h Q k
theorem go_neD {K : PySem.W.Frag} {H : Hp} {Q : VK} {x y : V} {d e : PyData} (h1 : Dq H x d) (h2 : Dq H y e) (s1 : SeqAt.shaped d = true) (s2 : SeqAt.shaped e = true) (q : Q (.bl (!PyData.eqv d e)) H) : rNeD K x y H Q :=
  ⟨d, e, h1.dp (PyData.hasDict_of_canLay d (SeqAt.canLay_of_shaped s1)), h2.dp (PyData.hasDict_of_canLay e (SeqAt.canLay_of_shaped s2)), s1, s2, q⟩
theorem go_eqD {K : PySem.W.Frag} {H : Hp} {Q : VK} {x y : V} {d e : PyData} (h1 : Dq H x d) (h2 : Dq H y e) (s1 : SeqAt.shaped d = true) (s2 : SeqAt.shaped e = true) (q : Q (.bl (PyData.eqv d e)) H) : rEqD K x y H Q :=
  ⟨d, e, h1.dp (PyData.hasDict_of_canLay d (SeqAt.canLay_of_shaped s1)), h2.dp (PyData.hasDict_of_canLay e (SeqAt.canLay_of_shaped s2)), s1, s2, q⟩
end HX
namespace HX
open PySem PySem.Spec PyProof.Rows L2
section
variable {K : PySem.W.Frag} {H : Hp} {Q : VK} {σ : L2.St} {te : TE} {tl th : TO} {QO : Option Int → Hp → Prop} {a : Addr} {xs : List V} {i : Int} {lo hi : Option Int}
theorem go_sl {r : V → Option Int → Option Int → Hp → VK → Prop} (h : te σ H fun x H1 => tl σ H1 fun l H2 => th σ H2 fun u H3 => r x l u H3 Q) : tSl r te tl th σ H Q := h
theorem go_part (h : te σ H fun x H1 => ∃ i, x = .int i ∧ QO (some i) H1) : tPart te σ H QO := h
theorem go_pint {Q : Int → Prop} (h : Q i) : ∃ j, V.int i = V.int j ∧ Q j := ⟨i, rfl, h⟩
theorem go_nopart (h : QO none H) : tNoPart σ H QO := h
theorem go_slT (h : Rd H a (.tup xs)) (hn : ¬ (HT.sIx xs.length 0 lo = 0 ∧ HT.sIx xs.length xs.length hi = xs.length)) (k : ∀ p, H p = none → Q (.ref p) (upd H p (.tup (cutV xs lo hi)))) : rSlT K (.ref a) lo hi H Q := ⟨a, xs, rfl, .inl h, hn, k⟩
theorem go_slL (h : Rd H a (.lst xs)) (k : ∀ p, H p = none → Q (.ref p) (upd H p (.lst (cutV xs lo hi)))) : rSlL K (.ref a) lo hi H Q := ⟨a, xs, rfl, .inl h, k⟩
theorem cut_tail (x : V) (l : List V) : cutV (x :: l) (some 1) none = l ∧ ¬ (HT.sIx (x :: l).length 0 (some 1) = 0 ∧ HT.sIx (x :: l).length (x :: l).length none = (x :: l).length) := by
  have e1 : HT.sIx (x :: l).length 0 (some 1) = 1 := by
    simp [HT.sIx]
  have e2 : HT.sIx (x :: l).length (x :: l).length none = l.length + 1 := by
    simp [HT.sIx]
  refine ⟨?_, by rw [e1]; simp⟩
  unfold cutV
  rw [e1, e2]
  simp
end
end HX
namespace HX
open PySem PySem.Spec PyProof.Rows L2
theorem run_forE {K : PySem.W.Frag} {a : Addr} {g : TG} {tb : TS} {D : Ends} {σ : L2.St} {H : Hp} (xs : List V) (Pv : Nat → L2.St → Hp → Prop) (h0 : Pv 0 σ H) (hl : ∀ i σ H, i ≤ xs.length → Pv i σ H → SqL K H a xs)
    (hs : ∀ i x σ H T, xs[i]? = some x → Pv i σ H → H T = none → g (.ref T) σ (upd H T (.tup [.int (i : Nat), x])) fun σ2 H2 => tb { D with nx := Pv (i + 1), ct := Pv (i + 1), bk := D.nx } σ2 H2)
    (hd : ∀ σ H, Pv xs.length σ H → D.nx σ H) : forE K a g tb D σ H := by
  refine ⟨fun i m σ H => m = xs.length - i ∧ i ≤ xs.length ∧ Pv i σ H, ⟨xs.length, by simp, Nat.zero_le _, h0⟩, ?_⟩
  rintro i m σ H ⟨rfl, hi, p⟩
  have q := hl i σ H hi p
  rcases Nat.lt_or_ge i xs.length with hlt | hge
  · refine .inr ⟨⟨xs, xs[i], q, by simp [hlt]⟩, Pv (i + 1), fun σ' H' p' => ⟨xs.length - (i + 1), by omega, rfl, hlt, p'⟩, ?_⟩
    rintro v H' ⟨T, x, rfl, hT, rfl, y⟩
    exact hs i x σ H T (y xs q) p hT
  · obtain rfl : i = xs.length := by omega
    exact .inl ⟨⟨xs, q, Nat.le_refl _⟩, hd σ H p⟩
end HX

set_option Elab.async false
set_option linter.all false
set_option maxRecDepth 100000
set_option maxHeartbeats 1000000

namespace Kx
open PySem PySem.Spec PyProof.Rows L2 HX
open Evl (Ex)
def top (i : Nat) : Stmt := PySem.Challenge.pw_imagetones_k03_errors_of_receivers.main.body.getD i (.Pass ⟨0, 0, 0, 0⟩)
/-- the jar: what is left of a cell, a seed, how many draws were mixed (n at most) -/
def JarAt (n : Nat) (H : Hp) (j : Addr) : Prop := ∃ a b c : Int, H j = some (.lst [.int a, .int b, .int c]) ∧ 0 ≤ b ∧ b < 2 ^ 95 ∧ 0 ≤ c ∧ c ≤ n
theorem JarAt.mono {n m : Nat} {H : Hp} {j : Addr} (h : JarAt n H j) (e : n ≤ m) : JarAt m H j := by
  obtain ⟨a, b, c, h1, h2, h3, h4, h5⟩ := h
  exact ⟨a, b, c, h1, h2, h3, h4, by omega⟩
def spJar (K : PySem.W.Frag) : Sp := fun vs H Q _ => ∃ (a : Addr) (ns : List Int) (i : Nat), vs = [.ref a, .int i] ∧ SqL K H a (ns.map V.int) ∧ i < 1000 ∧ ∀ j H', H j = none → Ex H H' → JarAt 0 H' j → Q (.ref j) H'
def spPick : Sp := fun vs H Q _ => ∃ (j : Addr) (bound : Int) (n : Nat), vs = [.ref j, .int bound] ∧ JarAt n H j ∧ n < 2 ^ 50 ∧ 0 < bound ∧ bound < 2 ^ 400 ∧
  ∀ (r : Int) (H' : Hp), 0 ≤ r → r < bound → JarAt (n + 1) H' j → Jx [j] H H' → Q (.int r) H'
local macro_rules | `(tactic| walk_at "side") => `(tactic| first | assumption | ((try dsimp only); first | assumption | decide +kernel | omega | exact ⟨by decide, by decide⟩ | (left; decide) | (left; omega) | (refine Or.inl ⟨?_, ?_⟩ <;> omega) | (refine Or.inr ⟨?_, ?_⟩ <;> omega)))
local macro_rules | `(tactic| walk_at "heap") => `(tactic| first | assumption | exact upd_same | exact Or.inl (by assumption) | exact Or.inl upd_same)
local macro_rules | `(tactic| walk_at "item") => `(tactic| first | exact rfl | exact atI_nat (j := 0) rfl | exact atI_nat (j := 1) rfl | exact atI_nat (j := 2) rfl | assumption)
local macro_rules | `(tactic| walk_at "rd") => `(tactic| repeat (first
  | ((with_reducible refine' go_var ?hv ?_); (case hv => exact rfl))
  | with_reducible refine' go_c ?_
  | with_reducible refine' go_op ?_
  | with_reducible refine' go_seq ?_
  | with_reducible refine' go_asg ?_
  | with_reducible refine' go_name ?_
  | with_reducible refine' go_cons ?_
  | with_reducible refine' go_nil ?_
  | with_reducible refine' go_cb ?_
  | with_reducible refine' go_call ?_
  | with_reducible refine' go_ifS ?_
  | with_reducible refine' go_test ?_
  | with_reducible refine' go_bl ?_
  | with_reducible refine' go_ret ?_
  | with_reducible refine' go_I0 ?_
  | ((with_reducible refine' go_I ?cc ?_); (case cc => walk_at "side"))
  | ((with_reducible refine' go_ixL ?hh ?hk ?_); (case hh => walk_at "heap"); (case hk => walk_at "item"))
  | ((with_reducible refine' go_ixT ?hh ?hk ?_); (case hh => walk_at "heap"); (case hk => walk_at "item"))
  | ((with_reducible refine' go_lenL ?hh ?_); (case hh => walk_at "heap"))
  | ((with_reducible refine' go_lenT ?hh ?_); (case hh => walk_at "heap"))
  | ((with_reducible refine' go_setL ?hh ?hk ?_); (case hh => walk_at "heap"); (case hk => walk_at "item"))
  | with_reducible refine' go_abs ?_
  | with_reducible refine' go_max ?_
  | with_reducible refine' go_min ?_
  | with_reducible refine' go_int ?_
  | with_reducible refine' go_intB ?_
  | (with_reducible refine' go_eq rfl ?_)
  | (with_reducible refine' go_ne rfl ?_)
  | with_reducible refine' go_isN ?_
  | with_reducible refine' go_notN ?_
  | with_reducible refine' go_if ?_
  | with_reducible refine' go_sub ?_
  | with_reducible refine' go_par ?_
  | with_reducible refine' go_sl ?_
  | with_reducible refine' go_part ?_
  | with_reducible refine' go_pint ?_
  | with_reducible refine' go_nopart ?_
  | ((with_reducible refine' go_lenL ?hh ?_); (case hh => walk_at "heap"))
  | ((with_reducible refine' go_lenT ?hh ?_); (case hh => walk_at "heap"))
  | ((with_reducible refine' go_lenS ?hh ?_); (case hh => assumption))
  | with_reducible refine' go_gcons ?_
  | with_reducible refine' go_gnil ?_
  | with_reducible refine' go_kw ?_
  | with_reducible refine' go_par2 ?_
  | with_reducible refine' go_next ?_
  | with_reducible refine' go_drop ?_
  | with_reducible refine' go_and ?_
  | with_reducible refine' go_or ?_
  | with_reducible refine' go_not ?_
  | with_reducible refine' go_B ?_
  | with_reducible refine' go_andV ?_
  | with_reducible refine' go_orV ?_
  | with_reducible refine' go_notV ?_
  | with_reducible refine' go_chain ?_
  | with_reducible refine' go_un ?_
  | with_reducible refine' go_U ?_
  | with_reducible refine' go_bm ?_
  | with_reducible refine' go_tup ?_
  | with_reducible refine' go_lst ?_
  | with_reducible refine' go_forR1 ?_
  | with_reducible refine' go_forR2 ?_
  | with_reducible refine' go_forL ?_
  | with_reducible refine' go_forT ?_
  | with_reducible refine' go_forE ?_
  | with_reducible refine' go_lcR1 ?_
  | with_reducible refine' go_lcL ?_
  | with_reducible refine' go_lcT ?_
  | ((with_reducible refine' go_tyL ?hh ?_); (case hh => walk_at "heap"))
  | ((with_reducible refine' go_new ?hz ?_); (case hz => exact Nat.le_of_ble_eq_true rfl))
  | (with_reducible refine' ⟨_, rfl, ?_⟩)
  ))
--MACEND
section
variable {P : Program} {w : World} {K : PySem.W.Frag} {mg : Str → Option Value} {base : Heap}
abbrev s__law_jar : Stmt := top 26
theorem sc__law_jar : FnScope ["script", "at", "cell"] ["script", "at"] (defScope s__law_jar) := ⟨rfl, rfl, rfl, by decide +kernel, rfl, by decide +kernel, by decide +kernel⟩
theorem ok_jar {f : Addr} {fd : FuncData} (F : Fun K "_law_jar" "_law_jar" s__law_jar f fd) (m_len : mg "len" = none) (m_max : mg "max" = none) (m_abs : mg "abs" = none) (m_int : mg "int" = none) :
    FnOk P w K mg base CX0 1 f fd ["script", "at"] (spJar K) := by
  refine F.ok sc__law_jar (fun vs H Q E h => ?_) (fun cdv A outer s H vs Q E hr h => ?_)
  · obtain ⟨a, ns, i, rfl, _⟩ := h
    rfl
  · obtain ⟨a, ns, i, rfl, hS, hi, k⟩ := h
    refine ⟨_, (pss_cons (ps_set (i := 2) sc__law_jar.nd rfl (Or.inl rfl) (pe_ifExp (pt_cmpR op_lt (pv 1) (pe_callB call_lenQ rfl m_len PySem.boot_len (pa_cons (pv 0) pa_nil)) (nomark _)) (pe_ix ix_list (pv 0) (pv 1) (fun _ _ => rfl)) pe_int))
  (pss_one (ps_ret (pe_lst (pa_cons (pe_callB (call_maxQ rfl) rfl m_max boot_max (pa_cons pe_int (pa_cons (pe_op op_add (pe_op op_sub (pe_callB call_absQ rfl m_abs (by decide +kernel) (pa_cons (pv 2) pa_nil)) (pe_op op_powW pe_int pe_int)) pe_int) pa_nil))) (pa_cons (pe_op op_add (pe_op op_mod (pe_callTy call_intQ rfl m_int boot_int (pa_cons (pv 2) pa_nil)) (pe_op op_add (pe_op op_powW pe_int pe_int) pe_int)) (pe_op op_mul pe_int (pe_op op_add (pv 1) pe_int))) (pa_cons pe_int pa_nil))))))), ?_⟩
    refine cut_e (te := tIf _ _ _) (fun v H' => ∃ cell : Int, v = .int cell ∧ H' = H) (fun Q' q => ?_) ?_
    · refine ⟨_, rfl, _, rfl, a, _, rfl, .inl hS, _, _, rfl, rfl, _, rfl, ite2 (fun h => ?_) (fun h => q _ _ ⟨_, rfl, rfl⟩)⟩
      have hlt : i < ns.length := by simpa using h
      refine ⟨_, rfl, _, rfl, _, _, _, V.int ns[i], rfl, rfl, hS, atI_nat (by simp [hlt]), q _ _ ⟨_, rfl, rfl⟩⟩
    · rintro v H' ⟨cell, rfl, rfl⟩
      have c18 : CPowW 10 18 := wide_pow (b := 4) (by decide) (by decide) (by decide)
      have c27 : CPowW 10 27 := wide_pow (b := 4) (by decide) (by decide) (by decide)
      walk_at "rd"
      intro p hp
      have e27 : (10 : Int) ^ (27 : Int).toNat + 103 = 1000000000000000000000000103 := by decide +kernel
      refine k _ _ hp (Ex.new hp) ⟨_, _, _, upd_same, ?_, ?_, by decide, by decide⟩
      · rw [e27]; omega
      · rw [e27]; omega
abbrev s__law_pick : Stmt := top 27
theorem sc__law_pick : FnScope ["jar", "bound", "drawn", "mixed"] ["jar", "bound"] (defScope s__law_pick) := ⟨rfl, rfl, rfl, by decide +kernel, rfl, by decide +kernel, by decide +kernel⟩
theorem ok_pick {f : Addr} {fd : FuncData} (F : Fun K "_law_pick" "_law_pick" s__law_pick f fd) (m_int : mg "int" = none) :
    FnOk P w K mg base CX0 1 f fd ["jar", "bound"] spPick := by
  refine F.ok sc__law_pick (fun vs H Q E h => ?_) (fun cdv A outer s H vs Q E hr h => ?_)
  · obtain ⟨j, bound, n, rfl, _⟩ := h
    rfl
  · obtain ⟨j, bound, n, rfl, ⟨a, b, c, hj, b0, b1, c0, c1⟩, hn, hb0, hb1, k⟩ := h
    refine ⟨_, (pss_cons (ps_if (pt_cmpR op_gt (pe_ix ix_list (pv 0) pe_int (fun _ _ => rfl)) pe_int (nomark _))
  (pss_cons (ps_set (i := 2) sc__law_pick.nd rfl (Or.inl rfl) (pe_op op_mod (pe_callTy call_intQ rfl m_int boot_int (pa_cons (pe_ix ix_list (pv 0) pe_int (fun _ _ => rfl)) pa_nil)) (pv 1)))
  (pss_cons (ps_asg (pe_op op_fdivW (pe_ix ix_list (pv 0) pe_int (fun _ _ => rfl)) (pv 1)) (pg_sub (pv 0) pe_int set_list))
  (pss_one (ps_ret (pv 2)))))
  pss_nil)
  (pss_cons (ps_asg (pe_op op_add (pe_ix ix_list (pv 0) pe_int (fun _ _ => rfl)) pe_int) (pg_sub (pv 0) pe_int set_list))
  (pss_cons (ps_set (i := 3) sc__law_pick.nd rfl (Or.inl rfl) (pe_op op_mod (pe_callTy call_intQ rfl m_int boot_int (pa_cons (pe_op op_powW (pe_op op_add (pe_ix ix_list (pv 0) pe_int (fun _ _ => rfl)) (pe_op op_mul pe_int (pe_ix ix_list (pv 0) pe_int (fun _ _ => rfl)))) pe_int) pa_nil)) (pe_op op_add (pe_op op_powW pe_int pe_int) pe_int)))
  (pss_cons (ps_set (i := 3) sc__law_pick.nd rfl (Or.inl rfl) (pe_op op_mod (pe_callTy call_intQ rfl m_int boot_int (pa_cons (pe_op op_powW (pe_op op_add (pv 3) (pe_op op_mul pe_int (pe_ix ix_list (pv 0) pe_int (fun _ _ => rfl)))) pe_int) pa_nil)) (pe_op op_add (pe_op op_powW pe_int pe_int) pe_int)))
  (pss_one (ps_ret (pe_op op_mod (pe_callTy call_intQ rfl m_int boot_int (pa_cons (pe_op op_fdiv (pv 3) pe_int) pa_nil)) (pv 1)))))))), ?_⟩
    have e39 : (10 : Int) ^ (39 : Int).toNat + 3 = 1000000000000000000000000000000000000003 := by decide +kernel
    have e42 : (10 : Int) ^ (42 : Int).toNat + 63 = 1000000000000000000000000000000000000000063 := by decide +kernel
    have p39 : CPowW 10 39 := wide_pow (b := 4) (by decide) (by decide) (by decide)
    have p42 : CPowW 10 42 := wide_pow (b := 4) (by decide) (by decide) (by decide)
    walk_at "rd"
    refine ite2 (fun h => ?_) (fun h => ?_)
    · -- the digits of the cell
      have ha : 0 < a := by simpa using h
      have hd : CDivW a bound := wide_div (b := 400) hb0 (by omega) (by decide) (by decide)
      walk_at "rd"
      exact k _ _ (Int.emod_nonneg _ (by omega)) (Int.emod_lt_of_pos _ hb0) ⟨_, b, c, upd_same, b0, b1, c0, by omega⟩ (Jx.upd (by simp))
    · have m39 : ∀ z : Int, 0 ≤ z % 1000000000000000000000000000000000000003 ∧ z % 1000000000000000000000000000000000000003 < 1000000000000000000000000000000000000003 := fun z => by omega
      have q1 : CPowW (b + 611953 * (c + 1)) 3 := wide_pow (b := 200) (by omega) (by decide) (by decide)
      have q2 : ∀ z : Int, CPowW (z % (10 ^ (39 : Int).toNat + 3) + 86028121 * (c + 1)) 3 := fun z => wide_pow (b := 200) (by rw [e39]; omega) (by decide) (by decide)
      walk_at "rd"
      refine go_I (q2 _) ?_
      walk_at "rd"
      refine k _ _ (Int.emod_nonneg _ (by omega)) (Int.emod_lt_of_pos _ hb0) ⟨a, b, c + 1, upd_same, b0, b1, by omega, by omega⟩ (Jx.upd (by simp))
end
end Kx

set_option Elab.async false
set_option linter.all false
set_option maxRecDepth 100000
set_option maxHeartbeats 2000000

namespace Kx
open PySem PySem.Spec PyProof.Rows L2 HX
open Evl (Ex)
/-! ### receivers as data -/
inductive Stg where
  | mix (lo : Int) | dial (add : Int) | pass (lo hi : Int)
def Stg.d : Stg → PyData
  | .mix lo => .tuple [.str "mix", .int lo]
  | .dial a => .tuple [.str "dial", .int a]
  | .pass lo hi => .tuple [.str "pass", .int lo, .int hi]
def Stg.ok (b : Int) : Stg → Prop
  | .mix lo => 0 ≤ lo ∧ lo ≤ b
  | .dial a => -b ≤ a ∧ a ≤ b
  | .pass lo hi => 0 ≤ lo ∧ lo ≤ hi ∧ hi ≤ b
def Stg.isDial : Stg → Bool
  | .dial _ => true
  | _ => false
def dials (ss : List Stg) : Nat := (ss.filter Stg.isDial).length
def rateD : Option Int → PyData
  | none => .none
  | some r => .int r
structure Rad (b : Int) (ss : List Stg) (rate : Option Int) : Prop where
  ne : ss ≠ []
  le : ss.length ≤ 8
  ok : ∀ s ∈ ss, s.ok b
  one : dials ss ≤ 1
  rate : ∀ r, rate = some r → 2 ≤ r ∧ r ≤ b
def radD (ss : List Stg) (rate : Option Int) : PyData := .tuple [.list (ss.map Stg.d), rateD rate]
/-- a stage's tuple at a -/
theorem stg_at {H : Hp} {v : V} {s : Stg} (h : Dq H v s.d) : ∃ a, v = .ref a ∧ match s with
    | .mix lo => Rd H a (.tup [.str "mix", .int lo])
    | .dial x => Rd H a (.tup [.str "dial", .int x])
    | .pass lo hi => Rd H a (.tup [.str "pass", .int lo, .int hi]) := by
  cases s with
  | mix lo => cases h with | tup h1 h2 => cases h2 with | cons q1 q2 => cases q1; cases q2 with | cons q3 q4 => cases q3; cases q4; exact ⟨_, rfl, h1⟩
  | dial lo => cases h with | tup h1 h2 => cases h2 with | cons q1 q2 => cases q1; cases q2 with | cons q3 q4 => cases q3; cases q4; exact ⟨_, rfl, h1⟩
  | pass lo hi => cases h with | tup h1 h2 => cases h2 with | cons q1 q2 => cases q1; cases q2 with | cons q3 q4 => cases q3; cases q4 with | cons q5 q6 => cases q5; cases q6; exact ⟨_, rfl, h1⟩
def Stg.vals : Stg → List V
  | .mix lo => [.str "mix", .int lo]
  | .dial x => [.str "dial", .int x]
  | .pass lo hi => [.str "pass", .int lo, .int hi]
theorem dq_stg {S : List Addr} {G : Hp} {q : Addr} {s : Stg} (h : G q = some (.tup s.vals)) (hq : q ∉ S) : Dq (hid S G) (.ref q) s.d := by
  have h' : hid S G q = some (.tup s.vals) := by rw [hid_ne hq]; exact h
  cases s with
  | mix lo => exact .tup (.inl h') (.cons (.str _) (.cons (.int _) .nil))
  | dial x => exact .tup (.inl h') (.cons (.str _) (.cons (.int _) .nil))
  | pass lo hi => exact .tup (.inl h') (.cons (.str _) (.cons (.int _) (.cons (.int _) .nil)))
theorem dials_app (ss : List Stg) (s : Stg) : dials (ss ++ [s]) = dials ss + (if s.isDial then 1 else 0) := by
  unfold dials
  rw [List.filter_append, List.length_append, List.filter_cons]
  split <;> rfl
def spRadio : Sp := fun vs H Q _ => ∃ (j : Addr) (most far : Int) (n : Nat), vs = [.ref j, .int most, .int far] ∧ JarAt n H j ∧ n < 2 ^ 40 ∧ 1 ≤ most ∧ most ≤ 8 ∧ 1 ≤ far ∧ far < 2 ^ 200 ∧
  ∀ (p : Addr) (ss : List Stg) (rate : Option Int) (H' : Hp), Rad (10 * far + 20) ss rate → ss.length ≤ most.toNat → Dq (hid [j] H') (.ref p) (radD ss rate) → H p = none → JarAt (n + 100) H' j → Jx [j] H H' → Q (.ref p) H'
local macro_rules | `(tactic| walk_at "side") => `(tactic| first | assumption | ((try dsimp only); first | assumption | decide +kernel | omega | exact ⟨by decide, by decide⟩ | (left; decide) | (left; omega) | (refine Or.inl ⟨?_, ?_⟩ <;> omega) | (refine Or.inr ⟨?_, ?_⟩ <;> omega)))
local macro_rules | `(tactic| walk_at "heap") => `(tactic| first | assumption | exact upd_same | exact Or.inl (by assumption) | exact Or.inl upd_same)
local macro_rules | `(tactic| walk_at "item") => `(tactic| first | exact rfl | exact atI_nat (j := 0) rfl | exact atI_nat (j := 1) rfl | exact atI_nat (j := 2) rfl | assumption)
local macro_rules | `(tactic| walk_at "rd") => `(tactic| repeat (first
  | ((with_reducible refine' go_var ?hv ?_); (case hv => exact rfl))
  | with_reducible refine' go_c ?_
  | with_reducible refine' go_op ?_
  | with_reducible refine' go_seq ?_
  | with_reducible refine' go_asg ?_
  | with_reducible refine' go_name ?_
  | with_reducible refine' go_cons ?_
  | with_reducible refine' go_nil ?_
  | with_reducible refine' go_cb ?_
  | with_reducible refine' go_call ?_
  | with_reducible refine' go_ifS ?_
  | with_reducible refine' go_test ?_
  | with_reducible refine' go_bl ?_
  | with_reducible refine' go_ret ?_
  | with_reducible refine' go_I0 ?_
  | ((with_reducible refine' go_I ?cc ?_); (case cc => walk_at "side"))
  | ((with_reducible refine' go_ixL ?hh ?hk ?_); (case hh => walk_at "heap"); (case hk => walk_at "item"))
  | ((with_reducible refine' go_ixT ?hh ?hk ?_); (case hh => walk_at "heap"); (case hk => walk_at "item"))
  | ((with_reducible refine' go_lenL ?hh ?_); (case hh => walk_at "heap"))
  | ((with_reducible refine' go_lenT ?hh ?_); (case hh => walk_at "heap"))
  | ((with_reducible refine' go_setL ?hh ?hk ?_); (case hh => walk_at "heap"); (case hk => walk_at "item"))
  | with_reducible refine' go_abs ?_
  | with_reducible refine' go_max ?_
  | with_reducible refine' go_min ?_
  | with_reducible refine' go_int ?_
  | with_reducible refine' go_intB ?_
  | (with_reducible refine' go_eq rfl ?_)
  | (with_reducible refine' go_ne rfl ?_)
  | with_reducible refine' go_isN ?_
  | with_reducible refine' go_notN ?_
  | with_reducible refine' go_if ?_
  | with_reducible refine' go_sub ?_
  | with_reducible refine' go_par ?_
  | with_reducible refine' go_sl ?_
  | with_reducible refine' go_part ?_
  | with_reducible refine' go_pint ?_
  | with_reducible refine' go_nopart ?_
  | ((with_reducible refine' go_lenL ?hh ?_); (case hh => walk_at "heap"))
  | ((with_reducible refine' go_lenT ?hh ?_); (case hh => walk_at "heap"))
  | ((with_reducible refine' go_lenS ?hh ?_); (case hh => assumption))
  | with_reducible refine' go_gcons ?_
  | with_reducible refine' go_gnil ?_
  | with_reducible refine' go_kw ?_
  | with_reducible refine' go_par2 ?_
  | with_reducible refine' go_next ?_
  | with_reducible refine' go_drop ?_
  | with_reducible refine' go_and ?_
  | with_reducible refine' go_or ?_
  | with_reducible refine' go_not ?_
  | with_reducible refine' go_B ?_
  | with_reducible refine' go_andV ?_
  | with_reducible refine' go_orV ?_
  | with_reducible refine' go_notV ?_
  | with_reducible refine' go_chain ?_
  | with_reducible refine' go_un ?_
  | with_reducible refine' go_U ?_
  | with_reducible refine' go_bm ?_
  | with_reducible refine' go_tup ?_
  | with_reducible refine' go_lst ?_
  | with_reducible refine' go_forR1 ?_
  | with_reducible refine' go_forR2 ?_
  | with_reducible refine' go_forL ?_
  | with_reducible refine' go_forT ?_
  | with_reducible refine' go_forE ?_
  | with_reducible refine' go_lcR1 ?_
  | with_reducible refine' go_lcL ?_
  | with_reducible refine' go_lcT ?_
  | ((with_reducible refine' go_tyL ?hh ?_); (case hh => walk_at "heap"))
  | ((with_reducible refine' go_new ?hz ?_); (case hz => exact Nat.le_of_ble_eq_true rfl))
  | (with_reducible refine' ⟨_, rfl, ?_⟩)
  ))
--MACEND
section
variable {P : Program} {w : World} {K : PySem.W.Frag} {mg : Str → Option Value} {base : Heap}
/-- what stands between two laps: the list at l holds the data ss, of which no more than one is a dial, none before the lap `spot` -/
structure Lap (b : Int) (S : List Addr) (l : Addr) (i : Nat) (spot : Int) (H : Hp) (vs : List V) (ss : List Stg) : Prop where
  at_ : H l = some (.lst vs)
  da : DqAll (hid S H) vs (ss.map Stg.d)
  len : ss.length = i
  ok : ∀ s ∈ ss, s.ok b
  one : dials ss ≤ if spot < i then 1 else 0
theorem Lap.jar {b : Int} {S : List Addr} {l : Addr} {i : Nat} {spot : Int} {H H' : Hp} {vs : List V} {ss : List Stg} (h : Lap b S l i spot H vs ss) (e : Jx S H H') (hl : H' l = H l) : Lap b S l i spot H' vs ss :=
  ⟨hl.trans h.at_, e.dqa h.da, h.len, h.ok, h.one⟩
/-- one more stage -/
theorem Lap.app {b : Int} {S : List Addr} {l : Addr} {i : Nat} {spot : Int} {H : Hp} {vs : List V} {ss : List Stg} {v : V} {s : Stg} (h : Lap b S l i spot H vs ss) (hS : l ∈ S) (hv : Dq (hid S H) v s.d) (hs : s.ok b)
    (hd : s.isDial = true → (i : Int) = spot) : Lap b S l (i + 1) spot (upd H l (.lst (vs ++ [v]))) (vs ++ [v]) (ss ++ [s]) := by
  refine ⟨upd_same, ?_, by rw [List.length_append, h.len]; rfl, fun x hx => ?_, ?_⟩
  · rw [hid_upd hS, List.map_append]
    exact h.da.app (.one hv)
  · rcases List.mem_append.mp hx with hx | hx
    · exact h.ok x hx
    · rw [List.mem_singleton.mp hx]; exact hs
  · have h1 := h.one
    rw [dials_app]
    by_cases q : s.isDial = true
    · have := hd q
      rw [if_pos q, if_pos (by omega)]
      rw [if_neg (by omega)] at h1
      omega
    · rw [if_neg q]
      by_cases z : spot < (i : Int)
      · rw [if_pos z] at h1; rw [if_pos (by omega)]; omega
      · rw [if_neg z] at h1
        have : dials ss = 0 := by omega
        rw [this]
        split <;> omega
theorem Jx_free {S : List Addr} {H H' : Hp} {t : Addr} (e : Jx S H H') (h : H' t = none) (ht : ∀ s ∈ S, H' s ≠ none) : H t = none := by
  cases q : H t with
  | none => rfl
  | some o =>
    have := e.get q fun z => ht t z h
    rw [h] at this
    cases this
theorem dqa_snoc {H : Hp} : ∀ {vs : List V} {ds : List PyData} {d : PyData}, DqAll H vs (ds ++ [d]) → ∃ vs0 v, vs = vs0 ++ [v] ∧ DqAll H vs0 ds ∧ Dq H v d
  | _, [], d, .cons (v := v) h k => by cases k; exact ⟨[], v, rfl, .nil, h⟩
  | _, e :: ds, d, .cons (v := v) h k => by
    obtain ⟨vs0, w, rfl, h1, h2⟩ := dqa_snoc k
    exact ⟨v :: vs0, w, rfl, .cons h h1, h2⟩
theorem stgs_nil (ss : List Stg) : PyData.eqv (.list (ss.map Stg.d)) (.list []) = ss.isEmpty := by cases ss <;> simp [PyData.eqv, PyData.eqvAll]
/-- the name of a stage -/
def Stg.nm : Stg → Str
  | .mix _ => "mix"
  | .dial _ => "dial"
  | .pass _ _ => "pass"
theorem stg_nm {H : Hp} {v : V} {s : Stg} (h : Dq H v s.d) : ∃ a xs, v = .ref a ∧ Rd H a (.tup xs) ∧ atI xs 0 = some (.str s.nm) := by
  obtain ⟨a, rfl, h⟩ := stg_at h
  cases s with
  | mix lo => exact ⟨_, _, rfl, h, rfl⟩
  | dial lo => exact ⟨_, _, rfl, h, rfl⟩
  | pass lo hi => exact ⟨_, _, rfl, h, rfl⟩
theorem nm_dial (s : Stg) : decide (V.str s.nm = V.str "dial") = s.isDial := by
  cases s with
  | mix lo => exact (by decide +kernel : decide (V.str "mix" = V.str "dial") = false)
  | dial lo => exact (by decide +kernel : decide (V.str "dial" = V.str "dial") = true)
  | pass lo hi => exact (by decide +kernel : decide (V.str "pass" = V.str "dial") = false)
theorem strs_ok : PyData.strOk "mix" = true ∧ PyData.strOk "dial" = true ∧ PyData.strOk "pass" = true := by decide +kernel
theorem lay_stg : ∀ s : Stg, s.d.canLay0 = true
  | .mix lo => by simp [Stg.d, PyData.canLay0, PyData.canLayAll0, strs_ok]
  | .dial lo => by simp [Stg.d, PyData.canLay0, PyData.canLayAll0, strs_ok]
  | .pass lo hi => by simp [Stg.d, PyData.canLay0, PyData.canLayAll0, strs_ok]
theorem depth_stg : ∀ s : Stg, s.d.depth = 1
  | .mix lo => rfl
  | .dial lo => rfl
  | .pass lo hi => rfl
theorem lay_stgs : ∀ ss : List Stg, PyData.canLayAll0 (ss.map Stg.d) = true ∧ PyData.depthAll (ss.map Stg.d) ≤ 1
  | [] => ⟨rfl, Nat.zero_le _⟩
  | s :: ss => by
    obtain ⟨h1, h2⟩ := lay_stgs ss
    refine ⟨by rw [List.map_cons, PyData.canLayAll0, lay_stg, h1]; rfl, ?_⟩
    rw [List.map_cons, PyData.depthAll, depth_stg]
    omega
theorem shaped_stgs (ss : List Stg) : SeqAt.shaped (.list (ss.map Stg.d)) = true := by
  obtain ⟨h1, h2⟩ := lay_stgs ss
  unfold SeqAt.shaped
  rw [Bool.and_eq_true]
  refine ⟨by simpa [PyData.canLay0] using h1, decide_eq_true ?_⟩
  rw [PyData.depth]
  omega
theorem menu_int (xs : List Int) (lo hi : Int) {u : Int} (h0 : 0 ≤ u) (h1 : u < xs.length) (hb : ∀ x ∈ xs, lo ≤ x ∧ x ≤ hi) : ∃ x, atI (xs.map V.int) u = some (.int x) ∧ lo ≤ x ∧ x ≤ hi := by
  obtain ⟨k, rfl⟩ : ∃ k : Nat, u = k := ⟨u.toNat, by omega⟩
  have hk : k < xs.length := by omega
  exact ⟨xs[k], atI_nat (by rw [List.getElem?_map, List.getElem?_eq_getElem hk]; rfl), hb _ (List.getElem_mem hk)⟩
theorem JarAt.obj {n : Nat} {H : Hp} {j : Addr} (h : JarAt n H j) : ∃ o, H j = some o := let ⟨_, _, _, h, _⟩ := h; ⟨_, h⟩
theorem JarAt.fresh {n : Nat} {H H' : Hp} {j t : Addr} (J : JarAt n H' j) (e : Jx [j] H H') (h : H' t = none) : H t = none :=
  Jx_free e h fun s hs z => by
    obtain rfl : s = j := by simpa using hs
    obtain ⟨o, q⟩ := J.obj
    rw [z] at q
    cases q
theorem JarAt.keep {n : Nat} {H H' : Hp} {j : Addr} (h : JarAt n H j) (e : H' j = H j) : JarAt n H' j := let ⟨a, b, c, h, r⟩ := h; ⟨a, b, c, e.trans h, r⟩
theorem pick_go {j : Addr} {bound : Int} {n : Nat} {H : Hp} {Q : VK} {E : XK} (hJ : JarAt n H j) (hn : n < 2 ^ 50) (h0 : 0 < bound) (h1 : bound < 2 ^ 400)
    (k : ∀ (r : Int) (H' : Hp), 0 ≤ r → r < bound → JarAt (n + 1) H' j → Jx [j] H H' → Q (.int r) H') : spPick ([.ref j, .int bound] ++ []) H Q E := ⟨j, bound, n, rfl, hJ, hn, h0, h1, k⟩
theorem Lap.lay {b : Int} {S : List Addr} {l p : Addr} {i : Nat} {spot : Int} {H : Hp} {o : HO} {vs : List V} {ss : List Stg} (h : Lap b S l i spot H vs ss) (hp : H p = none) : Lap b S l i spot (upd H p o) vs ss :=
  h.jar (Jx.new hp) (upd_ne (fresh_ne h.at_ hp).symm)
theorem Lap.pick {b : Int} {l j : Addr} {i : Nat} {spot : Int} {H H' : Hp} {vs : List V} {ss : List Stg} (h : Lap b [l, j] l i spot H vs ss) (hlj : l ≠ j) (e : Jx [j] H H') : Lap b [l, j] l i spot H' vs ss :=
  h.jar (e.more (by simp)) ((e.get h.at_ (nin1 hlj)).trans h.at_.symm)
abbrev s__law_radio : Stmt := top 28
theorem sc__law_radio : FnScope ["jar", "most", "far", "stages", "spot", "lap", "kind", "low"] ["jar", "most", "far"] (defScope s__law_radio) := ⟨rfl, rfl, rfl, by decide +kernel, rfl, by decide +kernel, by decide +kernel⟩
theorem ok_radio {f : Addr} {fd : FuncData} (F : Fun K "_law_radio" "_law_radio" s__law_radio f fd) (m_range : mg "range" = none) (h__law_pick : Has P w K mg base 1 "_law_pick" spPick) :
    FnOk P w K mg base CX0 2 f fd ["jar", "most", "far"] spRadio := by
  refine F.ok sc__law_radio (fun vs H Q E h => ?_) (fun cdv A outer s H vs Q E hr h => ?_)
  · obtain ⟨j, most, far, n, rfl, _⟩ := h
    rfl
  · obtain ⟨j, most, far, n, rfl, hJ, hn, hm1, hm8, hf1, hf2, k⟩ := h
    refine ⟨_, (pss_cons (ps_par (i := 3) (j := 4) (by rfl) sc__law_radio.nd rfl rfl (by decide) rfl rfl (pa_cons (pe_lst pa_nil) (pa_cons (pe_hs h__law_pick hr rfl (pa_cons (pv 0) (pa_cons (pe_op op_mul pe_int (pv 1)) pa_nil))) pa_nil)) (by rfl))
  (pss_cons (ps_for PassesOwn.never rfl (pi_range1 (by rfl) m_range (pa_cons (pe_op op_add pe_int (pe_hs h__law_pick hr rfl (pa_cons (pv 0) (pa_cons (pv 1) pa_nil)))) pa_nil)) (pg_name (i := 5) sc__law_radio.nd rfl (Or.inl rfl))
  (pss_cons (ps_par (i := 6) (j := 7) (by rfl) sc__law_radio.nd rfl rfl (by decide) rfl rfl (pa_cons (pe_hs h__law_pick hr rfl (pa_cons (pv 0) (pa_cons pe_int pa_nil))) (pa_cons (pe_ix ix_list (pe_lst (pa_cons pe_int (pa_cons (pe_hs h__law_pick hr rfl (pa_cons (pv 0) (pa_cons (pv 2) pa_nil))) pa_nil))) (pe_hs h__law_pick hr rfl (pa_cons (pv 0) (pa_cons pe_int pa_nil))) (fun _ _ => rfl)) pa_nil)) (by rfl))
  (pss_one (ps_if (pt_cmpR op_eq (pv 5) (pv 4) (nomark _))
  (pss_one (ps_expr (pe_bm PySem.F.plainAttrs_list PySem.F.slot_list_append PySem.F.type_list_append mt_append (pv 3) (pa_cons (pe_tup (pa_cons pe_str (pa_cons (pe_op op_sub (pe_hs h__law_pick hr rfl (pa_cons (pv 0) (pa_cons (pe_op op_add (pe_op op_mul pe_int (pv 2)) pe_int) pa_nil))) (pv 2)) pa_nil))) pa_nil))))
  (pss_one (ps_if (pt_cmpR op_eq (pv 6) pe_int (nomark _))
  (pss_one (ps_expr (pe_bm PySem.F.plainAttrs_list PySem.F.slot_list_append PySem.F.type_list_append mt_append (pv 3) (pa_cons (pe_tup (pa_cons pe_str (pa_cons (pv 7) (pa_cons (pe_op op_add (pv 7) (pe_ix ix_list (pe_lst (pa_cons pe_int (pa_cons pe_int (pa_cons (pe_hs h__law_pick hr rfl (pa_cons (pv 0) (pa_cons (pe_op op_add (pv 2) pe_int) pa_nil))) (pa_cons (pe_op op_mul pe_int (pv 2)) pa_nil))))) (pe_hs h__law_pick hr rfl (pa_cons (pv 0) (pa_cons pe_int pa_nil))) (fun _ _ => rfl))) pa_nil)))) pa_nil))))
  (pss_one (ps_if (PW.pt (pw_and (pt_cmpR op_eq (pv 6) pe_int (nomark _)) (pw_and (pt_cmpR (op_neD hr.units) (pv 3) (pe_lst pa_nil) (nomark _)) (pw_and1 (pt_cmpR op_ne (pe_ix ix_tup (pe_ix ix_list (pv 3) (pe_un un_neg pe_int) (fun _ _ => rfl)) pe_int (fun _ _ => rfl)) pe_str (nomark _))))))
  (pss_one (ps_expr (pe_bm PySem.F.plainAttrs_list PySem.F.slot_list_append PySem.F.type_list_append mt_append (pv 3) (pa_cons (pe_ix ix_list (pv 3) (pe_un un_neg pe_int) (fun _ _ => rfl)) pa_nil))))
  (pss_one (ps_expr (pe_bm PySem.F.plainAttrs_list PySem.F.slot_list_append PySem.F.type_list_append mt_append (pv 3) (pa_cons (pe_tup (pa_cons pe_str (pa_cons (pe_ix ix_list (pe_lst (pa_cons pe_int (pa_cons pe_int (pa_cons (pe_hs h__law_pick hr rfl (pa_cons (pv 0) (pa_cons (pe_op op_add (pv 2) pe_int) pa_nil))) (pa_cons (pe_hs h__law_pick hr rfl (pa_cons (pv 0) (pa_cons (pe_op op_add (pv 2) pe_int) pa_nil))) pa_nil))))) (pe_hs h__law_pick hr rfl (pa_cons (pv 0) (pa_cons pe_int pa_nil))) (fun _ _ => rfl)) pa_nil))) pa_nil))))))))))))
  (pss_one (ps_ret (pe_tup (pa_cons (pv 3) (pa_cons (pe_ix ix_list (pe_lst (pa_cons pe_non (pa_cons pe_non (pa_cons pe_int (pa_cons pe_int (pa_cons (pe_op op_add pe_int (pe_hs h__law_pick hr rfl (pa_cons (pv 0) (pa_cons pe_int pa_nil)))) (pa_cons (pe_op op_add pe_int (pe_hs h__law_pick hr rfl (pa_cons (pv 0) (pa_cons (pv 2) pa_nil)))) pa_nil))))))) (pe_hs h__law_pick hr rfl (pa_cons (pv 0) (pa_cons pe_int pa_nil))) (fun _ _ => rfl)) pa_nil))))))), ?_⟩
    walk_at "rd"
    intro l hl
    have hlj : l ≠ j := fresh_ne hJ.obj.choose_spec hl
    have hJ0 : JarAt n (upd H l (.lst [])) j := hJ.keep (upd_ne hlj.symm)
    have hL : Lap (10 * far + 20) [l, j] l 0 (-1) (upd H l (.lst [])) [] [] := ⟨upd_same, .nil, rfl, (fun _ h => nomatch h), Nat.zero_le _⟩
    walk_at "rd"
    refine pick_go hJ0 (by omega) (by omega) (by omega) fun spot H1 s0 s1 hJ1 x1 => ?_
    walk_at "rd"
    refine pick_go hJ1 (by omega) (by omega) (by omega) fun laps H2 t0 t1 hJ2 x2 => ?_
    walk_at "rd"
    refine ⟨by omega, by omega, ?_⟩
    have hL2 : Lap (10 * far + 20) [l, j] l 0 spot H2 [] [] :=
      ⟨((hL.pick hlj x1).pick hlj x2).at_, .nil, rfl, (fun _ h => nomatch h), Nat.zero_le _⟩
    have hX2 : Jx [l, j] H H2 := ((Jx.new hl).tr (x1.more (by simp))).tr (x2.more (by simp))
    refine run_forR (fun i σ G => ∃ (vs : List V) (ss : List Stg) (v5 v6 v7 : Option V), σ = [some (.ref j), some (.int most), some (.int far), some (.ref l), some (.int spot), v5, v6, v7] ∧
        Lap (10 * far + 20) [l, j] l i spot G vs ss ∧ JarAt (n + 2 + 6 * i) G j ∧ Jx [l, j] H G) ?_ ?_ ?_
    · exact ⟨[], [], _, _, _, rfl, hL2, hJ2.mono (by omega), hX2⟩
    · rintro i σ G hi ⟨vs, ss, v5, v6, v7, rfl, L, hJi, X⟩
      have hi8 : i < 8 := by omega
      walk_at "rd"
      refine pick_go hJi (by omega) (by omega) (by omega) fun kind G1 k0 k1 J1 y1 => ?_
      have L1 := L.pick hlj y1
      refine go_cons ?_
      -- [0, pick(far)][pick(2)]
      refine cut_e (te := tOp _ _ _) (fun v G3 => ∃ low : Int, v = .int low ∧ 0 ≤ low ∧ low ≤ far ∧ Lap (10 * far + 20) [l, j] l i spot G3 vs ss ∧ JarAt (n + 5 + 6 * i) G3 j ∧ Jx [l, j] G1 G3) (fun Q' q => ?_) ?_
      · walk_at "rd"
        refine pick_go J1 (by omega) (by omega) (by omega) fun z G2 z0 z1 J2 y2 => ?_
        have L2' := L1.pick hlj y2
        walk_at "rd"
        intro p hp
        have hpj : p ≠ j := fresh_ne J2.obj.choose_spec hp
        have L3 := L2'.lay (o := .lst [.int 0, .int z]) hp
        have hJ3 := J2.keep (upd_ne (o := .lst [.int 0, .int z]) (H := G2) hpj.symm)
        walk_at "rd"
        refine pick_go hJ3 (by omega) (by omega) (by omega) fun u G3 u0 u1 J3 y3 => ?_
        have hp3 := y3.get (upd_same (H := G2) (a := p) (o := .lst [.int 0, .int z])) (nin1 hpj)
        have fin : ∀ low : Int, 0 ≤ low → low ≤ far → Q' (.int low) G3 := fun low l0 l1 =>
          q _ _ ⟨low, rfl, l0, l1, L3.pick hlj y3, J3.mono (by omega), ((y2.more (by simp)).tr (Jx.new hp)).tr (y3.more (by simp))⟩
        rcases (by omega : u = 0 ∨ u = 1) with rfl | rfl
        · exact go_ixL (.inl hp3) rfl (fin _ (by omega) (by omega))
        · exact go_ixL (.inl hp3) rfl (fin _ (by omega) (by omega))
      · rintro v G3 ⟨low, rfl, l0, l1, L3, J3, y3⟩
        have X3 : Jx [l, j] H G3 := (X.tr (y1.more (by simp))).tr y3
        have fin : ∀ (G' : Hp) (v : V) (s : Stg), Lap (10 * far + 20) [l, j] l i spot G' vs ss → JarAt (n + 8 + 6 * i) G' j → Jx [l, j] H G' → Dq (hid [l, j] G') v s.d → s.ok (10 * far + 20) → (s.isDial = true → (i : Int) = spot) →
            ∃ (vs' : List V) (ss' : List Stg) (v5 v6 v7 : Option V), [some (.ref j), some (.int most), some (.int far), some (.ref l), some (.int spot), some (V.int (0 + (i : Int))), some (V.int kind), some (V.int low)] = [some (.ref j), some (.int most), some (.int far), some (.ref l), some (.int spot), v5, v6, v7] ∧
              Lap (10 * far + 20) [l, j] l (i + 1) spot (upd G' l (.lst (vs ++ [v]))) vs' ss' ∧ JarAt (n + 2 + 6 * (i + 1)) (upd G' l (.lst (vs ++ [v]))) j ∧ Jx [l, j] H (upd G' l (.lst (vs ++ [v]))) :=
          fun G' v s L' J' X' hv hs hd => ⟨_, _, _, _, _, rfl, L'.app (by simp) hv hs hd, (J'.mono (by omega)).keep (upd_ne hlj.symm), X'.tr (Jx.upd (by simp))⟩
        have hl3 := L3.at_
        have hvs : vs.length < sizeLine := by
          have e1 := L3.da.len
          have e2 := L3.len
          rw [List.length_map] at e1
          exact Nat.lt_of_lt_of_le (by omega : vs.length < 9) (by decide)
        have hfin : ∀ (G' : Hp) (q : Addr) (s : Stg) (m : Nat), Lap (10 * far + 20) [l, j] l i spot G' vs ss → JarAt m G' j → m ≤ n + 8 + 6 * i → Jx [l, j] H G' → G' q = none → s.ok (10 * far + 20) → (s.isDial = true → (i : Int) = spot) →
            ∃ (vs' : List V) (ss' : List Stg) (v5 v6 v7 : Option V), [some (.ref j), some (.int most), some (.int far), some (.ref l), some (.int spot), some (V.int (0 + (i : Int))), some (V.int kind), some (V.int low)] = [some (.ref j), some (.int most), some (.int far), some (.ref l), some (.int spot), v5, v6, v7] ∧
              Lap (10 * far + 20) [l, j] l (i + 1) spot (upd (upd G' q (.tup s.vals)) l (.lst (vs ++ [.ref q]))) vs' ss' ∧ JarAt (n + 2 + 6 * (i + 1)) (upd (upd G' q (.tup s.vals)) l (.lst (vs ++ [.ref q]))) j ∧ Jx [l, j] H (upd (upd G' q (.tup s.vals)) l (.lst (vs ++ [.ref q]))) :=
          fun G' q s m L' J' hm X' hq hs hd => fin _ _ s (L'.lay hq) ((J'.mono hm).keep (upd_ne (fresh_ne J'.obj.choose_spec hq).symm)) (X'.tr (Jx.new hq)) (dq_stg upd_same (nin2 (fresh_ne L'.at_ hq) (fresh_ne J'.obj.choose_spec hq))) hs hd
        walk_at "rd"
        refine ite2 (fun c => ?_) (fun c => ?_)
        · -- a dial
          have hsp : (i : Int) = spot := by simpa using c
          walk_at "rd"
          refine pick_go J3 (by omega) (by omega) (by omega) fun x G4 x0 x1 J4 y4 => ?_
          have L4 := L3.pick hlj y4
          walk_at "rd"
          intro q hq
          walk_at "rd"
          refine go_app (L4.lay hq).at_ hvs ?_
          exact hfin G4 q (.dial (x - far)) _ L4 J4 (by omega) (X3.tr (y4.more (by simp))) hq ⟨by omega, by omega⟩ (fun _ => hsp)
        · walk_at "rd"
          refine ite2 (fun c2 => ?_) (fun c2 => ?_)
          · -- a pass
            walk_at "rd"
            refine pick_go J3 (by omega) (by omega) (by omega) fun z G4 z0 z1 J4 y4 => ?_
            have L4 := L3.pick hlj y4
            walk_at "rd"
            intro p hp
            have hpj : p ≠ j := fresh_ne J4.obj.choose_spec hp
            have L5 := L4.lay (o := .lst [.int 0, .int 1, .int z, .int (9 * far)]) hp
            have J5 := J4.keep (upd_ne (o := .lst [.int 0, .int 1, .int z, .int (9 * far)]) (H := G4) hpj.symm)
            walk_at "rd"
            refine pick_go J5 (by omega) (by omega) (by omega) fun u G6 u0 u1 J6 y6 => ?_
            have hp6 := y6.get (upd_same (H := G4) (a := p) (o := .lst [.int 0, .int 1, .int z, .int (9 * far)])) (nin1 hpj)
            have L6 := L5.pick hlj y6
            obtain ⟨hi, e, hi0, hi1⟩ := menu_int [0, 1, z, 9 * far] 0 (9 * far + 1) u0 (by simpa using u1) (by simp; omega)
            refine go_ixL (.inl hp6) e ?_
            walk_at "rd"
            intro q hq
            walk_at "rd"
            refine go_app (L6.lay hq).at_ hvs ?_
            exact hfin G6 q (.pass low (low + hi)) _ L6 J6 (by omega) (((X3.tr (y4.more (by simp))).tr (Jx.new hp)).tr (y6.more (by simp))) hq ⟨by omega, by omega, by omega⟩ (fun z => nomatch z)
          · -- the same once more, or a mixer
            refine go_ifS ?_
            refine cut_t (tt := tAnd _ _) (fun b G4 => (b = true → ∃ vs0 v ss0 s, vs = vs0 ++ [v] ∧ ss = ss0 ++ [s] ∧ s.isDial = false) ∧ Lap (10 * far + 20) [l, j] l i spot G4 vs ss ∧ JarAt (n + 5 + 6 * i) G4 j ∧ Jx [l, j] H G4) (fun Q' q => ?_) ?_
            · walk_at "rd"
              refine ite2 (fun c3 => ?_) (fun c3 => q _ _ ⟨(fun z => nomatch z), L3, J3, X3⟩)
              walk_at "rd"
              intro p hp
              have L4 := L3.lay (o := .lst []) hp
              have J4 := J3.keep (upd_ne (o := .lst []) (H := G3) (fresh_ne J3.obj.choose_spec hp).symm)
              have X4 := X3.tr (Jx.new (o := .lst []) hp)
              refine go_neD (.lst (.inl L4.at_) (L4.da.ex hid_ex)) (.lst (.inl upd_same) .nil) (shaped_stgs ss) (by decide +kernel) ?_
              rw [stgs_nil]
              walk_at "rd"
              rcases List.eq_nil_or_concat ss with rfl | ⟨ss0, s, rfl⟩
              · exact iteF (q _ _ ⟨(fun z => nomatch z), L4, J4.mono (by omega), X4⟩)
              · have hda := L4.da
                rw [List.concat_eq_append, List.map_append] at hda
                obtain ⟨vs0, v, rfl, _, hv⟩ := dqa_snoc hda
                obtain ⟨a, xs, rfl, ha, hx⟩ := stg_nm (hv.ex hid_ex)
                rw [List.concat_eq_append]
                rw [if_pos (by cases ss0 <;> rfl)]
                have hl4 := L4.at_
                walk_at "rd"
                refine go_ixL (.inl hl4) (atI_last vs0 _) ?_
                walk_at "rd"
                try refine go_ixT ha hx ?_
                walk_at "rd"
                rw [nm_dial]
                refine q _ _ ⟨fun z => ⟨vs0, _, ss0, s, rfl, by simp, by simpa using z⟩, by simpa using L4, J4.mono (by omega), X4⟩
            · rintro b G4 ⟨hb, L4, J4, X4⟩
              refine ite2 (fun c4 => ?_) (fun c4 => ?_)
              · obtain ⟨vs0, v, ss0, s, rfl, rfl, hs⟩ := hb c4
                have hl4 := L4.at_
                have hda := L4.da
                rw [List.map_append] at hda
                obtain ⟨vs1, v1, ev, _, hv⟩ := dqa_snoc hda
                obtain ⟨rfl, e1⟩ := List.append_inj' ev rfl
                obtain rfl : v = v1 := by simpa using e1
                walk_at "rd"
                refine go_ixL (.inl hl4) (atI_last vs0 _) ?_
                walk_at "rd"
                refine go_app hl4 hvs ?_
                exact fin G4 v s L4 (J4.mono (by omega)) X4 hv (L4.ok s (by simp)) (fun z => by rw [hs] at z; cases z)
              · have hl4 := L4.at_
                walk_at "rd"
                refine pick_go J4 (by omega) (by omega) (by omega) fun z1 G5 z10 z11 J5 y5 => ?_
                have L5 := L4.pick hlj y5
                walk_at "rd"
                refine pick_go J5 (by omega) (by omega) (by omega) fun z2 G6 z20 z21 J6 y6 => ?_
                have L6 := L5.pick hlj y6
                walk_at "rd"
                intro p hp
                have hpj : p ≠ j := fresh_ne J6.obj.choose_spec hp
                have L7 := L6.lay (o := .lst [.int 0, .int 1, .int z1, .int z2]) hp
                have J7 := J6.keep (upd_ne (o := .lst [.int 0, .int 1, .int z1, .int z2]) (H := G6) hpj.symm)
                walk_at "rd"
                refine pick_go J7 (by omega) (by omega) (by omega) fun u G8 u0 u1 J8 y8 => ?_
                have hp8 := y8.get (upd_same (H := G6) (a := p) (o := .lst [.int 0, .int 1, .int z1, .int z2])) (nin1 hpj)
                have L8 := L7.pick hlj y8
                obtain ⟨lo, e, lo0, lo1⟩ := menu_int [0, 1, z1, z2] 0 (far + 1) u0 (by simpa using u1) (by simp; omega)
                refine go_ixL (.inl hp8) e ?_
                walk_at "rd"
                intro q hq
                walk_at "rd"
                refine go_app (L8.lay hq).at_ hvs ?_
                exact hfin G8 q (.mix lo) _ L8 J8 (by omega) ((((X4.tr (y5.more (by simp))).tr (y6.more (by simp))).tr (Jx.new hp)).tr (y8.more (by simp))) hq ⟨by omega, by omega⟩ (fun z => nomatch z)
    · rintro σ G ⟨vs, ss, v5, v6, v7, rfl, L, hJi, X⟩
      have hle : (1 + laps).toNat ≤ 8 := by omega
      have hX0 : Jx [j] H G := Jx.less (X.more (by simp)) hl
      walk_at "rd"
      refine pick_go hJi (by omega) (by omega) (by omega) fun z1 G1 z10 z11 J1 y1 => ?_
      have L1 := L.pick hlj y1
      walk_at "rd"
      refine pick_go J1 (by omega) (by omega) (by omega) fun z2 G2 z20 z21 J2 y2 => ?_
      have L2 := L1.pick hlj y2
      walk_at "rd"
      intro p hp
      have hpj : p ≠ j := fresh_ne J2.obj.choose_spec hp
      have L3 := L2.lay (o := .lst [.non, .non, .int 2, .int 3, .int (2 + z1), .int (2 + z2)]) hp
      have J3 := J2.keep (upd_ne (o := .lst [.non, .non, .int 2, .int 3, .int (2 + z1), .int (2 + z2)]) (H := G2) hpj.symm)
      walk_at "rd"
      refine pick_go J3 (by omega) (by omega) (by omega) fun u G4 u0 u1 J4 y4 => ?_
      have hp4 := y4.get (upd_same (H := G2) (a := p) (o := .lst [.non, .non, .int 2, .int 3, .int (2 + z1), .int (2 + z2)])) (nin1 hpj)
      have L4 := L3.pick hlj y4
      have hX4 : Jx [j] H G4 := ((hX0.tr (y1.tr y2)).tr (Jx.new hp)).tr y4
      have fin : ∀ (v : V) (rate : Option Int), atI [.non, .non, .int 2, .int 3, .int (2 + z1), .int (2 + z2)] u = some v → (∀ r, rate = some r → 2 ≤ r ∧ r ≤ 10 * far + 20) → Dq (fun _ => none) v (rateD rate) →
          ∀ t, G4 t = none → Q (.ref t) (upd G4 t (.tup [.ref l, v])) := fun v rate _ hr hv t ht => by
        have htj : t ≠ j := fresh_ne J4.obj.choose_spec ht
        have htl : t ≠ l := fresh_ne L4.at_ ht
        have L5 := L4.lay (o := .tup [.ref l, v]) ht
        have hlen := L4.len
        refine k t ss rate _ ⟨fun z => ?_, by omega, L4.ok, ?_, hr⟩ (by omega) ?_ (J4.fresh hX4 ht) ((J4.mono (by omega)).keep (upd_ne htj.symm)) (hX4.tr (Jx.new ht))
        · subst z
          simp at hlen
          omega
        · have := L4.one
          split at this <;> omega
        · refine .tup (.inl (by rw [hid_ne (nin1 htj)]; exact upd_same)) (.cons (.lst (.inl (by rw [hid_ne (nin1 hlj)]; exact L5.at_)) (L5.da.ex (hid_sub (by simp)))) (.cons (hv.ex (fun _ _ z => absurd z (by simp))) .nil))
      have rr : ∀ r : Int, 2 ≤ r → r ≤ 10 * far + 20 → ∀ r', some r = some r' → 2 ≤ r' ∧ r' ≤ 10 * far + 20 := fun r h1 h2 r' e => by
        cases e
        exact ⟨h1, h2⟩
      have cc : u = 0 ∨ u = 1 ∨ u = 2 ∨ u = 3 ∨ u = 4 ∨ u = 5 := by omega
      obtain ⟨v, rate, hv, hr, hd⟩ : ∃ (v : V) (rate : Option Int), atI [.non, .non, .int 2, .int 3, .int (2 + z1), .int (2 + z2)] u = some v ∧ (∀ r, rate = some r → 2 ≤ r ∧ r ≤ 10 * far + 20) ∧ Dq (fun _ => none) v (rateD rate) := by
        rcases cc with rfl | rfl | rfl | rfl | rfl | rfl
        · exact ⟨.non, none, rfl, (fun _ z => nomatch z), .non⟩
        · exact ⟨.non, none, rfl, (fun _ z => nomatch z), .non⟩
        · exact ⟨_, some 2, rfl, rr _ (by omega) (by omega), .int _⟩
        · exact ⟨_, some 3, rfl, rr _ (by omega) (by omega), .int _⟩
        · exact ⟨_, some (2 + z1), rfl, rr _ (by omega) (by omega), .int _⟩
        · exact ⟨_, some (2 + z2), rfl, rr _ (by omega) (by omega), .int _⟩
      refine go_ixL (.inl hp4) hv ?_
      walk_at "rd"
      exact fin v rate hv hr hd
end
end Kx

set_option Elab.async false
set_option linter.all false
set_option maxRecDepth 100000
namespace HX
open PySem PySem.Spec PyProof.Rows L2
open Evl (Ex)
/-! ### isinstance of data -/
def tyNm : PyData → String
  | .none => "NoneType"
  | .bool _ => "bool"
  | .int _ => "int"
  | .str _ => "str"
  | .list _ => "list"
  | .tuple _ => "tuple"
  | .dict _ => "dict"
theorem Dq.ty {K : PySem.W.Frag} {H : Hp} {x : V} {d : PyData} (h : Dq H x d) : TyX K H x (.type (tyNm d)) := by
  cases h with
  | non => exact .base .non
  | bl b => exact .base (.bl b)
  | int i => exact .base (.int i)
  | str y => exact .base (.str y)
  | lst h k => rcases h with h | ⟨o, h⟩
               · exact .base (.lst h)
               · exact .base (.frz h)
  | tup h k => rcases h with h | ⟨o, h⟩
               · exact .base (.tup h)
               · exact .fTuple h
  | dic h => exact .base (.dK h)
theorem go_isi {K : PySem.W.Frag} {H : Hp} {x : V} {d : PyData} {T : String} {b : Bool} {Q : VK} (h : Dq H x d) (e : kitB (tyNm d) T = some b) (q : Q (.bl b) H) : rIsi K [x, .ty T] H Q :=
  ⟨x, .ty T, _, _, b, rfl, .ty T, h.ty, kit_ty e, q⟩
def pInt : PyData → Bool
  | .int _ => true
  | .bool _ => true
  | _ => false
theorem kit_int (d : PyData) : kitB (tyNm d) "int" = some (pInt d) := by
  cases d with
  | none => exact (by decide +kernel : kitB "NoneType" "int" = some false)
  | bool _ => exact (by decide +kernel : kitB "bool" "int" = some true)
  | int _ => exact (by decide +kernel : kitB "int" "int" = some true)
  | str _ => exact (by decide +kernel : kitB "str" "int" = some false)
  | list _ => exact (by decide +kernel : kitB "list" "int" = some false)
  | tuple _ => exact (by decide +kernel : kitB "tuple" "int" = some false)
  | dict _ => exact (by decide +kernel : kitB "dict" "int" = some false)
def pBool : PyData → Bool
  | .bool _ => true
  | _ => false
theorem kit_bool (d : PyData) : kitB (tyNm d) "bool" = some (pBool d) := by
  cases d with
  | none => exact (by decide +kernel : kitB "NoneType" "bool" = some false)
  | bool _ => exact (by decide +kernel : kitB "bool" "bool" = some true)
  | int _ => exact (by decide +kernel : kitB "int" "bool" = some false)
  | str _ => exact (by decide +kernel : kitB "str" "bool" = some false)
  | list _ => exact (by decide +kernel : kitB "list" "bool" = some false)
  | tuple _ => exact (by decide +kernel : kitB "tuple" "bool" = some false)
  | dict _ => exact (by decide +kernel : kitB "dict" "bool" = some false)
def pStr : PyData → Bool
  | .str _ => true
  | _ => false
theorem kit_str (d : PyData) : kitB (tyNm d) "str" = some (pStr d) := by
  cases d with
  | none => exact (by decide +kernel : kitB "NoneType" "str" = some false)
  | bool _ => exact (by decide +kernel : kitB "bool" "str" = some false)
  | int _ => exact (by decide +kernel : kitB "int" "str" = some false)
  | str _ => exact (by decide +kernel : kitB "str" "str" = some true)
  | list _ => exact (by decide +kernel : kitB "list" "str" = some false)
  | tuple _ => exact (by decide +kernel : kitB "tuple" "str" = some false)
  | dict _ => exact (by decide +kernel : kitB "dict" "str" = some false)
def pList : PyData → Bool
  | .list _ => true
  | _ => false
theorem kit_list (d : PyData) : kitB (tyNm d) "list" = some (pList d) := by
  cases d with
  | none => exact (by decide +kernel : kitB "NoneType" "list" = some false)
  | bool _ => exact (by decide +kernel : kitB "bool" "list" = some false)
  | int _ => exact (by decide +kernel : kitB "int" "list" = some false)
  | str _ => exact (by decide +kernel : kitB "str" "list" = some false)
  | list _ => exact (by decide +kernel : kitB "list" "list" = some true)
  | tuple _ => exact (by decide +kernel : kitB "tuple" "list" = some false)
  | dict _ => exact (by decide +kernel : kitB "dict" "list" = some false)
def pTuple : PyData → Bool
  | .tuple _ => true
  | _ => false
theorem kit_tuple (d : PyData) : kitB (tyNm d) "tuple" = some (pTuple d) := by
  cases d with
  | none => exact (by decide +kernel : kitB "NoneType" "tuple" = some false)
  | bool _ => exact (by decide +kernel : kitB "bool" "tuple" = some false)
  | int _ => exact (by decide +kernel : kitB "int" "tuple" = some false)
  | str _ => exact (by decide +kernel : kitB "str" "tuple" = some false)
  | list _ => exact (by decide +kernel : kitB "list" "tuple" = some false)
  | tuple _ => exact (by decide +kernel : kitB "tuple" "tuple" = some true)
  | dict _ => exact (by decide +kernel : kitB "dict" "tuple" = some false)
theorem tuple_or (d : PyData) : (∃ ds, d = .tuple ds) ∨ pTuple d = false := by
  cases d with
  | tuple ds => exact .inl ⟨_, rfl⟩
  | _ => exact .inr rfl
theorem str_or (d : PyData) : (∃ x, d = .str x) ∨ pStr d = false := by
  cases d with
  | str ds => exact .inl ⟨_, rfl⟩
  | _ => exact .inr rfl
theorem list_or (d : PyData) : (∃ x, d = .list x) ∨ pList d = false := by
  cases d with
  | list ds => exact .inl ⟨_, rfl⟩
  | _ => exact .inr rfl
/-! ### a tuple unpacked -/
section
variable {K : PySem.W.Frag} {H : Hp} {σ : L2.St} {Q : L2.St → Hp → Prop} {a : Addr} {xs : List V} {n : Nat} {t : TGs} {g : TG} {v : V}
theorem go_gtup (h : SqT K H a xs) (hl : xs.length = n) (k : t xs σ H Q) : gTup K n t (.ref a) σ H Q := ⟨a, xs, rfl, h, hl, k⟩
theorem go_gcons (k : g v σ H fun σ' H' => t xs σ' H' Q) : gCons g t (v :: xs) σ H Q := ⟨v, xs, rfl, k⟩
theorem go_gnil (k : Q σ H) : gNil [] σ H Q := ⟨rfl, k⟩
end
theorem Dq.tupleAt {H : Hp} {x : V} {ds : List PyData} (h : Dq H x (.tuple ds)) : ∃ a xs, x = .ref a ∧ Rd H a (.tup xs) ∧ DqAll H xs ds := by
  cases h with
  | tup h1 h2 => exact ⟨_, _, rfl, h1, h2⟩
theorem Dq.listAt {H : Hp} {x : V} {ds : List PyData} (h : Dq H x (.list ds)) : ∃ a xs, x = .ref a ∧ Rd H a (.lst xs) ∧ DqAll H xs ds := by
  cases h with
  | lst h1 h2 => exact ⟨_, _, rfl, h1, h2⟩
/-! ### a def called by keywords alone -/
def HasK (P : Program) (w : World) (K : PySem.W.Frag) (mg : Str → Option Value) (base : Heap) (k : Nat) (x : Str) (ks : List Str) (g : List Value → List Value) (gV : List V → List V) (sp : Sp) : Prop :=
  ∃ (f : Addr) (fd : FuncData) (ps : List Str), FnOk P w K mg base CX0 k f fd ps sp ∧ mg x = some (.ref f) ∧ PySem.W.keepIn K (.ref f) = true ∧ KBn K fd ps 0 ks (fun _ ws => g ws) (fun _ zs => gV zs)
def tKw (n : Nat) (sp : Sp) (gV : List V → List V) (tk : TA) : TE := fun σ H Q => tk σ H fun zs H2 => zs.length = n ∧ sp (gV zs) H2 Q E0
section
variable {X : Cx} {k n : Nat} {sp : Sp} {x : Str} {p pos : Pos} {kws : List Keyword} {tk : TA} {ks : List Str} {g : List Value → List Value} {gV : List V → List V}
theorem pe_kw (h : HasK X.prog X.w X.K X.mg X.base k x ks g gV sp) (hr : Room n X.A) (hg : Gl X x) (hkw : PK X kws tk) (hkn : k ≤ n := by decide)
    (hall : (backToKw pos (keywordEach kws X.env)).all (·.1.isSome) = true := by rfl) (hks : (backToKw pos (keywordEach kws X.env)).filterMap (·.1) = ks := by rfl) (hdb : (x == ("__debug__" : Str)) = false := by decide)
    (hpl : ((backTo pos (starEach [] X.env)).any (·.1) || (backToKw pos (keywordEach kws X.env)).any (·.1.isNone)) = false := by rfl) :
    PE X (.Call (.Name x p) [] kws pos) (tKw ks.length sp gV tk) := by
  obtain ⟨f, fd, ps, F, hm, hk, hb⟩ := h
  refine ⟨fun pins s σ H Q I h => ?_⟩
  refine wpAny_Call_Name_kw (ld_glob I hg hm ?_ hdb)
  refine PySem.W.callWith_KW0 (h₀ := X.base) I.ok.mod.kin hk hall ?_ hpl
  refine thn (hkw.run pos pins s σ H _ I h) fun ws s2 ⟨zs, H2, I2, rz, l2, q2⟩ => ⟨I2.kIn, ?_⟩
  rw [hks]
  exact run_fnN (us := []) (vs := []) (n := 0) F (hr.mono hkn) hb pass0 I2 .nil rz rfl l2 q2
theorem go_kw {σ : L2.St} {H : Hp} {Q : VK} (h : tk σ H fun zs H2 => zs.length = n ∧ sp (gV zs) H2 Q E0) : tKw n sp gV tk σ H Q := h
end
end HX

set_option Elab.async false
set_option linter.all false
set_option maxRecDepth 100000
set_option maxHeartbeats 2000000

namespace Kx
open PySem PySem.Spec PyProof.Rows L2 HX
open Evl (Ex)
local macro_rules | `(tactic| walk_at "side") => `(tactic| first | assumption | ((try dsimp only); first | assumption | decide +kernel | omega | exact ⟨by decide, by decide⟩ | (left; decide) | (left; omega) | (refine Or.inl ⟨?_, ?_⟩ <;> omega) | (refine Or.inr ⟨?_, ?_⟩ <;> omega)))
local macro_rules | `(tactic| walk_at "heap") => `(tactic| first | assumption | exact upd_same | exact Or.inl (by assumption) | exact Or.inl upd_same)
local macro_rules | `(tactic| walk_at "item") => `(tactic| first | exact rfl | exact atI_nat (j := 0) rfl | exact atI_nat (j := 1) rfl | exact atI_nat (j := 2) rfl | assumption)
local macro_rules | `(tactic| walk_at "rd") => `(tactic| repeat (first
  | ((with_reducible refine' go_var ?hv ?_); (case hv => exact rfl))
  | with_reducible refine' go_c ?_
  | with_reducible refine' go_op ?_
  | with_reducible refine' go_seq ?_
  | with_reducible refine' go_asg ?_
  | with_reducible refine' go_name ?_
  | with_reducible refine' go_cons ?_
  | with_reducible refine' go_nil ?_
  | with_reducible refine' go_cb ?_
  | with_reducible refine' go_call ?_
  | with_reducible refine' go_ifS ?_
  | with_reducible refine' go_test ?_
  | with_reducible refine' go_bl ?_
  | with_reducible refine' go_ret ?_
  | with_reducible refine' go_I0 ?_
  | ((with_reducible refine' go_I ?cc ?_); (case cc => walk_at "side"))
  | ((with_reducible refine' go_ixL ?hh ?hk ?_); (case hh => walk_at "heap"); (case hk => walk_at "item"))
  | ((with_reducible refine' go_ixT ?hh ?hk ?_); (case hh => walk_at "heap"); (case hk => walk_at "item"))
  | ((with_reducible refine' go_lenL ?hh ?_); (case hh => walk_at "heap"))
  | ((with_reducible refine' go_lenT ?hh ?_); (case hh => walk_at "heap"))
  | ((with_reducible refine' go_setL ?hh ?hk ?_); (case hh => walk_at "heap"); (case hk => walk_at "item"))
  | with_reducible refine' go_abs ?_
  | with_reducible refine' go_max ?_
  | with_reducible refine' go_min ?_
  | with_reducible refine' go_int ?_
  | with_reducible refine' go_intB ?_
  | (with_reducible refine' go_eq rfl ?_)
  | (with_reducible refine' go_ne rfl ?_)
  | with_reducible refine' go_isN ?_
  | with_reducible refine' go_notN ?_
  | with_reducible refine' go_if ?_
  | with_reducible refine' go_sub ?_
  | with_reducible refine' go_par ?_
  | with_reducible refine' go_sl ?_
  | with_reducible refine' go_part ?_
  | with_reducible refine' go_pint ?_
  | with_reducible refine' go_nopart ?_
  | ((with_reducible refine' go_lenL ?hh ?_); (case hh => walk_at "heap"))
  | ((with_reducible refine' go_lenT ?hh ?_); (case hh => walk_at "heap"))
  | ((with_reducible refine' go_lenS ?hh ?_); (case hh => assumption))
  | with_reducible refine' go_gcons ?_
  | with_reducible refine' go_gnil ?_
  | with_reducible refine' go_kw ?_
  | with_reducible refine' go_par2 ?_
  | with_reducible refine' go_next ?_
  | with_reducible refine' go_drop ?_
  | with_reducible refine' go_and ?_
  | with_reducible refine' go_or ?_
  | with_reducible refine' go_not ?_
  | with_reducible refine' go_B ?_
  | with_reducible refine' go_andV ?_
  | with_reducible refine' go_orV ?_
  | with_reducible refine' go_notV ?_
  | with_reducible refine' go_chain ?_
  | with_reducible refine' go_un ?_
  | with_reducible refine' go_U ?_
  | with_reducible refine' go_bm ?_
  | with_reducible refine' go_tup ?_
  | with_reducible refine' go_lst ?_
  | with_reducible refine' go_forR1 ?_
  | with_reducible refine' go_forR2 ?_
  | with_reducible refine' go_forL ?_
  | with_reducible refine' go_forT ?_
  | with_reducible refine' go_forE ?_
  | with_reducible refine' go_lcR1 ?_
  | with_reducible refine' go_lcL ?_
  | with_reducible refine' go_lcT ?_
  | ((with_reducible refine' go_tyL ?hh ?_); (case hh => walk_at "heap"))
  | ((with_reducible refine' go_new ?hz ?_); (case hz => exact Nat.le_of_ble_eq_true rfl))
  | (with_reducible refine' ⟨_, rfl, ?_⟩)
  ))
--MACEND
def isInt : PyData → Bool
  | .int _ => true
  | _ => false
def isNat : PyData → Bool
  | .int i => decide (0 ≤ i)
  | _ => false
def isBand : PyData → Bool
  | .tuple [.int a, .int b] => decide (0 ≤ a) && decide (0 ≤ b) && decide (a ≤ b)
  | _ => false
def isStage : PyData → Bool
  | .tuple (.str k :: d :: ds) => if k = "mix" then ds.isEmpty && isNat d else if k = "dial" then ds.isEmpty && isInt d else decide (k = "pass") && isBand (.tuple (d :: ds))
  | _ => false
def isRate : PyData → Bool
  | .none => true
  | .int i => decide (2 ≤ i)
  | _ => false
def isFrame : PyData → Bool
  | .tuple [.list ss, _] => decide (1 ≤ ss.length) && decide (ss.length ≤ 8)
  | _ => false
/-- a look at one thing -/
def spLook (f : PyData → Bool) : Sp := fun vs H Q _ => ∃ x d, vs = [x] ∧ Dq H x d ∧ ∀ H', Ex H H' → Q (.bl (f d)) H'
theorem look_go {f : PyData → Bool} {x : V} {d : PyData} {H : Hp} {Q : VK} {E : XK} (h : Dq H x d) (k : ∀ H', Ex H H' → Q (.bl (f d)) H') : spLook f ([x] ++ []) H Q E := ⟨x, d, rfl, h, k⟩
section
variable {P : Program} {w : World} {K : PySem.W.Frag} {mg : Str → Option Value} {base : Heap}
abbrev s_is_integer : Stmt := top 13
theorem sc_is_integer : FnScope ["value"] ["value"] (defScope s_is_integer) := ⟨rfl, rfl, rfl, by decide +kernel, rfl, by decide +kernel, by decide +kernel⟩
theorem ok_is_integer {f : Addr} {fd : FuncData} (F : Fun K "is_integer" "is_integer" s_is_integer f fd) (m_isinstance : mg "isinstance" = none) (m_int : mg "int" = none) (m_bool : mg "bool" = none) :
    FnOk P w K mg base CX0 1 f fd ["value"] (spLook isInt) := by
  refine F.ok sc_is_integer (fun vs H Q E h => ?_) (fun cdv A outer s H vs Q E hr h => ?_)
  · obtain ⟨x, d, rfl, _⟩ := h
    rfl
  · obtain ⟨x, d, rfl, hd, k⟩ := h
    refine ⟨_, (pss_one (ps_ret (pe_and (pe_callB call_isi rfl m_isinstance (by decide +kernel) (pa_cons (pv 0) (pa_cons (pe_bltn (v := .ty "int") (u := .type "int") rfl m_int (by decide +kernel) rfl) pa_nil))) (pe_one (pe_not (pe_callB call_isi rfl m_isinstance (by decide +kernel) (pa_cons (pv 0) (pa_cons (pe_bltn (v := .ty "bool") (u := .type "bool") rfl m_bool (by decide +kernel) rfl) pa_nil)))))))), ?_⟩
    walk_at "rd"
    refine go_isi hd (kit_int d) ?_
    walk_at "rd"
    have two : isInt d = !pBool d → rIsi K [x, .ty "bool"] H fun v H' => ∃ c, v = .bl c ∧ Q (.bl (!c)) H' := fun e =>
      go_isi hd (kit_bool d) ⟨_, rfl, by rw [← e]; exact k H (Ex.refl H)⟩
    cases d with
    | int i =>
      refine iteT ?_
      walk_at "rd"
      exact two rfl
    | bool b =>
      refine iteT ?_
      walk_at "rd"
      exact two rfl
    | none => exact iteF (k _ (Ex.refl _))
    | str y => exact iteF (k _ (Ex.refl _))
    | list ds => exact iteF (k _ (Ex.refl _))
    | tuple ds => exact iteF (k _ (Ex.refl _))
    | dict ds => exact iteF (k _ (Ex.refl _))
abbrev s_is_natural : Stmt := top 14
theorem sc_is_natural : FnScope ["value"] ["value"] (defScope s_is_natural) := ⟨rfl, rfl, rfl, by decide +kernel, rfl, by decide +kernel, by decide +kernel⟩
theorem ok_is_natural {f : Addr} {fd : FuncData} (F : Fun K "is_natural" "is_natural" s_is_natural f fd) (h_is_integer : Has P w K mg base 1 "is_integer" (spLook isInt)) :
    FnOk P w K mg base CX0 2 f fd ["value"] (spLook isNat) := by
  refine F.ok sc_is_natural (fun vs H Q E h => ?_) (fun cdv A outer s H vs Q E hr h => ?_)
  · obtain ⟨x, d, rfl, _⟩ := h
    rfl
  · obtain ⟨x, d, rfl, hd, k⟩ := h
    refine ⟨_, (pss_one (ps_ret (pe_and (pe_hs h_is_integer hr rfl (pa_cons (pv 0) pa_nil)) (pe_one (pe_cmpR op_ge (pv 0) pe_int (nomark _)))))), ?_⟩
    walk_at "rd"
    refine look_go hd fun H1 e1 => ?_
    walk_at "rd"
    cases d with
    | int i =>
      cases hd
      refine iteT ?_
      walk_at "rd"
      exact k _ e1
    | bool b => exact iteF (k _ e1)
    | none => exact iteF (k _ e1)
    | str y => exact iteF (k _ e1)
    | list ds => exact iteF (k _ e1)
    | tuple ds => exact iteF (k _ e1)
    | dict ds => exact iteF (k _ e1)
theorem nat_int {d : PyData} (h : isNat d = true) : ∃ i : Int, d = .int i ∧ 0 ≤ i := by
  cases d <;> simp [isNat] at h
  exact ⟨_, rfl, h⟩
theorem dqa2 {H : Hp} {vs : List V} {ds : List PyData} (h : DqAll H vs ds) (hl : ds.length = 2) : ∃ a b d e, vs = [a, b] ∧ ds = [d, e] ∧ Dq H a d ∧ Dq H b e := by
  cases h with
  | nil => simp at hl
  | cons h1 h2 => cases h2 with
    | nil => simp at hl
    | cons h3 h4 => cases h4 with
      | nil => exact ⟨_, _, _, _, rfl, rfl, h1, h3⟩
      | cons _ _ => simp at hl
abbrev s_is_band : Stmt := top 15
theorem sc_is_band : FnScope ["value", "least", "greatest"] ["value"] (defScope s_is_band) := ⟨rfl, rfl, rfl, by decide +kernel, rfl, by decide +kernel, by decide +kernel⟩
theorem ok_is_band {f : Addr} {fd : FuncData} (F : Fun K "is_band" "is_band" s_is_band f fd) (m_isinstance : mg "isinstance" = none) (m_tuple : mg "tuple" = none) (m_len : mg "len" = none) (h_is_natural : Has P w K mg base 2 "is_natural" (spLook isNat)) :
    FnOk P w K mg base CX0 3 f fd ["value"] (spLook isBand) := by
  refine F.ok sc_is_band (fun vs H Q E h => ?_) (fun cdv A outer s H vs Q E hr h => ?_)
  · obtain ⟨x, d, rfl, _⟩ := h
    rfl
  · obtain ⟨x, d, rfl, hd, k⟩ := h
    refine ⟨_, (pss_cons (ps_if (PW.pt (pw_or (pt_not (pt_val (pe_callB call_isi rfl m_isinstance (by decide +kernel) (pa_cons (pv 0) (pa_cons (pe_bltn (v := .ty "tuple") (u := .type "tuple") rfl m_tuple (by decide +kernel) rfl) pa_nil))))) (pw_or1 (pt_cmpR op_ne (pe_callB call_lenQ rfl m_len PySem.boot_len (pa_cons (pv 0) pa_nil)) pe_int (nomark _)))))
  (pss_one (ps_ret pe_bl))
  pss_nil)
  (pss_cons (ps_asg (pv 0) (pg_tup (by rfl) (pgs_cons (pg_name (i := 1) sc_is_band.nd rfl (Or.inl rfl)) (pgs_cons (pg_name (i := 2) sc_is_band.nd rfl (Or.inl rfl)) pgs_nil))))
  (pss_one (ps_ret (pe_and (pe_hs h_is_natural hr rfl (pa_cons (pv 1) pa_nil)) (pe_and (pe_hs h_is_natural hr rfl (pa_cons (pv 2) pa_nil)) (pe_one (pe_cmpR op_le (pv 1) (pv 2) (nomark _))))))))), ?_⟩
    walk_at "rd"
    refine go_isi hd (kit_tuple d) ?_
    walk_at "rd"
    rcases tuple_or d with ⟨ds, rfl⟩ | hn
    · obtain ⟨a, xs, rfl, ha, hda⟩ := hd.tupleAt
      have hl := hda.len
      refine iteF ?_
      walk_at "rd"
      by_cases h2 : ds.length = 2
      · obtain ⟨b, c, d, e, rfl, rfl, hb, hc⟩ := dqa2 hda h2
        refine iteNS rfl ?_
        walk_at "rd"
        refine go_gtup (.inl ha) rfl ?_
        walk_at "rd"
        refine look_go hb fun H1 e1 => ?_
        walk_at "rd"
        cases hd1 : isNat d with
        | false =>
          refine iteF ?_
          have e : isBand (.tuple [d, e]) = false := by
            cases d <;> cases e <;> simp [isBand, isNat] at *
            omega
          rw [← e]
          exact k _ e1
        | true =>
          obtain ⟨i, rfl, hi⟩ := nat_int hd1
          refine iteT ?_
          walk_at "rd"
          refine look_go (hc.ex e1) fun H2 e2 => ?_
          walk_at "rd"
          cases hd2 : isNat e with
          | false =>
            refine iteF ?_
            have e : isBand (.tuple [.int i, e]) = false := by
              cases e <;> simp [isBand, isNat] at *
              omega
            rw [← e]
            exact k _ (e1.trans e2)
          | true =>
            obtain ⟨j, rfl, hj⟩ := nat_int hd2
            cases hb
            cases hc
            refine iteT ?_
            walk_at "rd"
            have e : isBand (.tuple [.int i, .int j]) = decide (i ≤ j) := by simp [isBand, hi, hj]
            rw [← e]
            exact k _ (e1.trans e2)
      · have hne : (!decide (V.int (xs.length : Int) = V.int 2)) = true := by
          simp
          omega
        rw [hne]
        refine iteT ?_
        walk_at "rd"
        have e : isBand (.tuple ds) = false := by
          match ds, h2 with
          | [], _ => rfl
          | [x], _ => cases x <;> rfl
          | [_, _], h => exact absurd rfl h
          | x :: y :: _ :: _, _ => cases x <;> first | rfl | (cases y <;> rfl)
        rw [← e]
        exact k _ (Ex.refl _)
    · rw [hn]
      refine iteT (iteT ?_)
      walk_at "rd"
      have e : isBand d = false := by cases d <;> first | rfl | simp [pTuple] at hn
      rw [← e]
      exact k _ (Ex.refl _)
abbrev s_is_stage : Stmt := top 16
theorem sc_is_stage : FnScope ["value", "kind"] ["value"] (defScope s_is_stage) := ⟨rfl, rfl, rfl, by decide +kernel, rfl, by decide +kernel, by decide +kernel⟩
theorem ok_is_stage {f : Addr} {fd : FuncData} (F : Fun K "is_stage" "is_stage" s_is_stage f fd) (m_isinstance : mg "isinstance" = none) (m_tuple : mg "tuple" = none) (m_str : mg "str" = none) (m_len : mg "len" = none)
    (h_is_integer : Has P w K mg base 1 "is_integer" (spLook isInt)) (h_is_natural : Has P w K mg base 2 "is_natural" (spLook isNat)) (h_is_band : Has P w K mg base 3 "is_band" (spLook isBand)) :
    FnOk P w K mg base CX0 4 f fd ["value"] (spLook isStage) := by
  refine F.ok sc_is_stage (fun vs H Q E h => ?_) (fun cdv A outer s H vs Q E hr h => ?_)
  · obtain ⟨x, d, rfl, _⟩ := h
    rfl
  · obtain ⟨x, d, rfl, hd, k⟩ := h
    refine ⟨_, (pss_cons (ps_if (PW.pt (pw_or (pt_not (pt_val (pe_callB call_isi rfl m_isinstance (by decide +kernel) (pa_cons (pv 0) (pa_cons (pe_bltn (v := .ty "tuple") (u := .type "tuple") rfl m_tuple (by decide +kernel) rfl) pa_nil))))) (pw_or (pt_cmpR op_lt (pe_callB call_lenQ rfl m_len PySem.boot_len (pa_cons (pv 0) pa_nil)) pe_int (nomark _)) (pw_or1 (pt_not (pt_val (pe_callB call_isi rfl m_isinstance (by decide +kernel) (pa_cons (pe_ix ix_tup (pv 0) pe_int (fun _ _ => rfl)) (pa_cons (pe_bltn (v := .ty "str") (u := .type "str") rfl m_str (by decide +kernel) rfl) pa_nil)))))))))
  (pss_one (ps_ret pe_bl))
  pss_nil)
  (pss_cons (ps_set (i := 1) sc_is_stage.nd rfl (Or.inl rfl) (pe_ix ix_tup (pv 0) pe_int (fun _ _ => rfl)))
  (pss_cons (ps_if (pt_cmpR op_eq (pv 1) pe_str (nomark _))
  (pss_one (ps_ret (pe_and (pe_cmpR op_eq (pe_callB call_lenQ rfl m_len PySem.boot_len (pa_cons (pv 0) pa_nil)) pe_int (nomark _)) (pe_one (pe_hs h_is_natural hr rfl (pa_cons (pe_ix ix_tup (pv 0) pe_int (fun _ _ => rfl)) pa_nil))))))
  pss_nil)
  (pss_cons (ps_if (pt_cmpR op_eq (pv 1) pe_str (nomark _))
  (pss_one (ps_ret (pe_and (pe_cmpR op_eq (pe_callB call_lenQ rfl m_len PySem.boot_len (pa_cons (pv 0) pa_nil)) pe_int (nomark _)) (pe_one (pe_hs h_is_integer hr rfl (pa_cons (pe_ix ix_tup (pv 0) pe_int (fun _ _ => rfl)) pa_nil))))))
  pss_nil)
  (pss_one (ps_ret (pe_and (pe_cmpR op_eq (pv 1) pe_str (nomark _)) (pe_one (pe_hs h_is_band hr rfl (pa_cons (pe_slice sl_tup (pv 0) (po_some pe_int) po_none) pa_nil)))))))))), ?_⟩
    have no : isStage d = false → ∀ H', Ex H H' → Q (.bl false) H' := fun e H' e' => by rw [← e]; exact k H' e'
    walk_at "rd"
    refine go_isi hd (kit_tuple d) ?_
    walk_at "rd"
    rcases tuple_or d with ⟨ds, rfl⟩ | hn
    · obtain ⟨a, xs, rfl, ha, hda⟩ := hd.tupleAt
      have hl := hda.len
      refine iteF ?_
      walk_at "rd"
      cases hda with
      | nil =>
        refine iteT (iteT ?_)
        walk_at "rd"
        exact no rfl _ (Ex.refl _)
      | cons q1 hda =>
        rename_i v vs d ds
        cases hda with
        | nil =>
          refine iteT (iteT ?_)
          walk_at "rd"
          refine no ?_ _ (Ex.refl _)
          cases d <;> rfl
        | cons q2 hda =>
          rename_i v2 vs d2 ds
          have hlt : decide (((v :: v2 :: vs).length : Int) < 2) = false := by simp; omega
          rw [hlt]
          refine iteF ?_
          walk_at "rd"
          refine go_isi q1 (kit_str d) ?_
          walk_at "rd"
          rcases str_or d with ⟨nm, rfl⟩ | hn
          · cases q1
            refine iteF ?_
            walk_at "rd"
            have len2 : decide (V.int ((V.str nm :: v2 :: vs).length : Int) = V.int 2) = ds.isEmpty := by
              have := hda.len
              cases ds with
              | nil => cases vs with
                       | nil => rfl
                       | cons _ _ => simp at this
              | cons _ _ => cases vs with
                            | nil => simp at this
                            | cons _ _ => simp; omega
            refine ite2 (fun c => ?_) (fun c => ?_)
            · obtain rfl : nm = "mix" := by simpa using c
              walk_at "rd"
              rw [len2]
              cases he : ds.isEmpty with
              | false =>
                refine iteF (no ?_ _ (Ex.refl _))
                simp [isStage, he]
              | true =>
                refine iteT ?_
                walk_at "rd"
                refine look_go q2 fun H1 e1 => ?_
                have e : isStage (.tuple (.str "mix" :: d2 :: ds)) = isNat d2 := by simp [isStage, he]
                rw [← e]
                exact k _ e1
            · have cm : nm ≠ "mix" := by simpa using c
              walk_at "rd"
              refine ite2 (fun c2 => ?_) (fun c2 => ?_)
              · obtain rfl : nm = "dial" := by simpa using c2
                walk_at "rd"
                rw [len2]
                cases he : ds.isEmpty with
                | false =>
                  refine iteF (no ?_ _ (Ex.refl _))
                  simp [isStage, he]
                | true =>
                  refine iteT ?_
                  walk_at "rd"
                  refine look_go q2 fun H1 e1 => ?_
                  have e : isStage (.tuple (.str "dial" :: d2 :: ds)) = isInt d2 := by simp [isStage, he, cm]
                  rw [← e]
                  exact k _ e1
              · have cd : nm ≠ "dial" := by simpa using c2
                have e : isStage (.tuple (.str nm :: d2 :: ds)) = (decide (nm = "pass") && isBand (.tuple (d2 :: ds))) := by simp [isStage, cm, cd]
                walk_at "rd"
                have en : decide (V.str nm = V.str "pass") = decide (nm = "pass") := by simp
                rw [en]
                cases hp : decide (nm = "pass") with
                | false =>
                  refine iteF (no ?_ _ (Ex.refl _))
                  rw [e, hp]
                  rfl
                | true =>
                  refine iteT ?_
                  walk_at "rd"
                  obtain ⟨t1, t2⟩ := cut_tail (V.str nm) (v2 :: vs)
                  refine go_slT ha t2 fun p hp' => ?_
                  rw [t1]
                  walk_at "rd"
                  have en := Ex.new (o := HO.tup (v2 :: vs)) hp'
                  refine look_go (d := .tuple (d2 :: ds)) (.tup (.inl upd_same) (.cons (q2.ex en) (hda.ex en))) fun H1 e1 => ?_
                  have e' : isStage (.tuple (.str nm :: d2 :: ds)) = isBand (.tuple (d2 :: ds)) := by rw [e, hp]; rfl
                  rw [← e']
                  exact k _ (en.trans e1)
          · rw [hn]
            refine iteT ?_
            walk_at "rd"
            refine no ?_ _ (Ex.refl _)
            cases d <;> first | rfl | simp [pStr] at hn
    · rw [hn]
      refine iteT (iteT ?_)
      walk_at "rd"
      refine no ?_ _ (Ex.refl _)
      cases d <;> first | rfl | simp [pTuple] at hn
abbrev s_is_rate : Stmt := top 17
theorem sc_is_rate : FnScope ["value"] ["value"] (defScope s_is_rate) := ⟨rfl, rfl, rfl, by decide +kernel, rfl, by decide +kernel, by decide +kernel⟩
theorem ok_is_rate {f : Addr} {fd : FuncData} {t : Tok} (F : Fun K "is_rate" "is_rate" s_is_rate f fd) (g_LEAST_RATE : mg "LEAST_RATE" = some (.int 2 t)) (h_is_integer : Has P w K mg base 1 "is_integer" (spLook isInt)) :
    FnOk P w K mg base CX0 2 f fd ["value"] (spLook isRate) := by
  refine F.ok sc_is_rate (fun vs H Q E h => ?_) (fun cdv A outer s H vs Q E hr h => ?_)
  · obtain ⟨x, d, rfl, _⟩ := h
    rfl
  · obtain ⟨x, d, rfl, hd, k⟩ := h
    refine ⟨_, (pss_one (ps_ret (pe_or (pe_cmpR op_isN1 (pv 0) pe_non (nomark _)) (pe_one (pe_and (pe_hs h_is_integer hr rfl (pa_cons (pv 0) pa_nil)) (pe_one (pe_cmpR op_ge (pv 0) (pe_glob (v := .int 2) rfl g_LEAST_RATE ⟨_, rfl⟩) (nomark _)))))))), ?_⟩
    walk_at "rd"
    cases hd with
    | non => exact iteT (k _ (Ex.refl _))
    | int i =>
      refine iteF ?_
      walk_at "rd"
      refine look_go (.int i) fun H1 e1 => ?_
      walk_at "rd"
      refine iteT ?_
      walk_at "rd"
      exact k _ e1
    | bl b =>
      refine iteF ?_
      walk_at "rd"
      refine look_go (.bl b) fun H1 e1 => ?_
      walk_at "rd"
      exact iteF (k _ e1)
    | str b =>
      refine iteF ?_
      walk_at "rd"
      refine look_go (.str b) fun H1 e1 => ?_
      walk_at "rd"
      exact iteF (k _ e1)
    | lst h1 h2 =>
      refine iteF ?_
      walk_at "rd"
      refine look_go (.lst h1 h2) fun H1 e1 => ?_
      walk_at "rd"
      exact iteF (k _ e1)
    | tup h1 h2 =>
      refine iteF ?_
      walk_at "rd"
      refine look_go (.tup h1 h2) fun H1 e1 => ?_
      walk_at "rd"
      exact iteF (k _ e1)
    | dic h1 =>
      refine iteF ?_
      walk_at "rd"
      refine look_go (.dic h1) fun H1 e1 => ?_
      walk_at "rd"
      exact iteF (k _ e1)
abbrev s__is_frame : Stmt := top 18
theorem sc__is_frame : FnScope ["value"] ["value"] (defScope s__is_frame) := ⟨rfl, rfl, rfl, by decide +kernel, rfl, by decide +kernel, by decide +kernel⟩
theorem ok_is_frame {f : Addr} {fd : FuncData} {t : Tok} (F : Fun K "_is_frame" "_is_frame" s__is_frame f fd) (m_isinstance : mg "isinstance" = none) (m_tuple : mg "tuple" = none) (m_list : mg "list" = none) (m_len : mg "len" = none) (g_MOST_STAGES : mg "MOST_STAGES" = some (.int 8 t)) :
    FnOk P w K mg base CX0 1 f fd ["value"] (spLook isFrame) := by
  refine F.ok sc__is_frame (fun vs H Q E h => ?_) (fun cdv A outer s H vs Q E hr h => ?_)
  · obtain ⟨x, d, rfl, _⟩ := h
    rfl
  · obtain ⟨x, d, rfl, hd, k⟩ := h
    refine ⟨_, (pss_cons (ps_if (PW.pt (pw_or (pt_not (pt_val (pe_callB call_isi rfl m_isinstance (by decide +kernel) (pa_cons (pv 0) (pa_cons (pe_bltn (v := .ty "tuple") (u := .type "tuple") rfl m_tuple (by decide +kernel) rfl) pa_nil))))) (pw_or1 (pt_cmpR op_ne (pe_callB call_lenQ rfl m_len PySem.boot_len (pa_cons (pv 0) pa_nil)) pe_int (nomark _)))))
  (pss_one (ps_ret pe_bl))
  pss_nil)
  (pss_one (ps_ret (pe_and (pe_callB call_isi rfl m_isinstance (by decide +kernel) (pa_cons (pe_ix ix_tup (pv 0) pe_int (fun _ _ => rfl)) (pa_cons (pe_bltn (v := .ty "list") (u := .type "list") rfl m_list (by decide +kernel) rfl) pa_nil))) (pe_one (pe_chain op_le op_le pe_int (pe_callB call_lenQ rfl m_len PySem.boot_len (pa_cons (pe_ix ix_tup (pv 0) pe_int (fun _ _ => rfl)) pa_nil)) (pe_glob (v := .int 8) rfl g_MOST_STAGES ⟨_, rfl⟩))))))), ?_⟩
    have no : isFrame d = false → Q (.bl false) H := fun e => by rw [← e]; exact k H (Ex.refl H)
    walk_at "rd"
    refine go_isi hd (kit_tuple d) ?_
    walk_at "rd"
    rcases tuple_or d with ⟨ds, rfl⟩ | hn
    · obtain ⟨a, xs, rfl, ha, hda⟩ := hd.tupleAt
      have hl := hda.len
      refine iteF ?_
      walk_at "rd"
      by_cases h2 : ds.length = 2
      · obtain ⟨b, c, d, e, rfl, rfl, hb, hc⟩ := dqa2 hda h2
        refine iteNS rfl ?_
        walk_at "rd"
        refine go_isi hb (kit_list d) ?_
        walk_at "rd"
        rcases list_or d with ⟨ss, rfl⟩ | hn
        · obtain ⟨a2, ys, rfl, ha2, hda2⟩ := hb.listAt
          refine iteT ?_
          walk_at "rd"
          have hl2 := hda2.len
          cases h1 : decide (1 ≤ (ys.length : Int)) with
          | false =>
            refine iteF (no ?_)
            have : ss.length = 0 := by simp at h1; omega
            simp [isFrame, this]
          | true =>
            refine iteT ?_
            walk_at "rd"
            have e : isFrame (.tuple [.list ss, e]) = decide ((ys.length : Int) ≤ 8) := by
              have : 1 ≤ ss.length := by simp at h1; omega
              simp [isFrame, this]
              rw [hl2]
              by_cases q : ss.length ≤ 8
              · simp [q]; omega
              · simp [q]; omega
            rw [← e]
            exact k _ (Ex.refl _)
        · rw [hn]
          refine iteF (no ?_)
          cases d <;> first | rfl | simp [pList] at hn
      · have hne : (!decide (V.int (xs.length : Int) = V.int 2)) = true := by
          simp
          omega
        rw [hne]
        refine iteT ?_
        walk_at "rd"
        refine no ?_
        match ds, h2 with
        | [], _ => rfl
        | [x], _ => cases x <;> rfl
        | [_, _], h => exact absurd rfl h
        | x :: y :: _ :: _, _ => cases x <;> rfl
    · rw [hn]
      refine iteT (iteT ?_)
      walk_at "rd"
      refine no ?_
      cases d <;> first | rfl | simp [pTuple] at hn
/-- a look that passes: nothing is raised -/
def spCheck (f : PyData → Bool) : Sp := fun vs H Q _ => ∃ x d, vs = [x] ∧ Dq H x d ∧ f d = true ∧ ∀ H', Ex H H' → Q .non H'
theorem check_go {f : PyData → Bool} {x : V} {d : PyData} {H : Hp} {Q : VK} {E : XK} (h : Dq H x d) (hf : f d = true) (k : ∀ H', Ex H H' → Q .non H') : spCheck f ([x] ++ []) H Q E := ⟨x, d, rfl, h, hf, k⟩
end
end Kx

set_option Elab.async false
set_option linter.all false
set_option maxRecDepth 100000
set_option maxHeartbeats 2000000

namespace Kx
open PySem PySem.Spec PyProof.Rows L2 HX
open Evl (Ex)
local macro_rules | `(tactic| walk_at "side") => `(tactic| first | assumption | ((try dsimp only); first | assumption | decide +kernel | omega | exact ⟨by decide, by decide⟩ | (left; decide) | (left; omega) | (refine Or.inl ⟨?_, ?_⟩ <;> omega) | (refine Or.inr ⟨?_, ?_⟩ <;> omega)))
local macro_rules | `(tactic| walk_at "heap") => `(tactic| first | assumption | exact upd_same | exact Or.inl (by assumption) | exact Or.inl upd_same)
local macro_rules | `(tactic| walk_at "item") => `(tactic| first | exact rfl | exact atI_nat (j := 0) rfl | exact atI_nat (j := 1) rfl | exact atI_nat (j := 2) rfl | assumption)
local macro_rules | `(tactic| walk_at "rd") => `(tactic| repeat (first
  | ((with_reducible refine' go_var ?hv ?_); (case hv => exact rfl))
  | with_reducible refine' go_c ?_
  | with_reducible refine' go_op ?_
  | with_reducible refine' go_seq ?_
  | with_reducible refine' go_asg ?_
  | with_reducible refine' go_name ?_
  | with_reducible refine' go_cons ?_
  | with_reducible refine' go_nil ?_
  | with_reducible refine' go_cb ?_
  | with_reducible refine' go_call ?_
  | with_reducible refine' go_ifS ?_
  | with_reducible refine' go_test ?_
  | with_reducible refine' go_bl ?_
  | with_reducible refine' go_ret ?_
  | with_reducible refine' go_I0 ?_
  | ((with_reducible refine' go_I ?cc ?_); (case cc => walk_at "side"))
  | ((with_reducible refine' go_ixL ?hh ?hk ?_); (case hh => walk_at "heap"); (case hk => walk_at "item"))
  | ((with_reducible refine' go_ixT ?hh ?hk ?_); (case hh => walk_at "heap"); (case hk => walk_at "item"))
  | ((with_reducible refine' go_lenL ?hh ?_); (case hh => walk_at "heap"))
  | ((with_reducible refine' go_lenT ?hh ?_); (case hh => walk_at "heap"))
  | ((with_reducible refine' go_setL ?hh ?hk ?_); (case hh => walk_at "heap"); (case hk => walk_at "item"))
  | with_reducible refine' go_abs ?_
  | with_reducible refine' go_max ?_
  | with_reducible refine' go_min ?_
  | with_reducible refine' go_int ?_
  | with_reducible refine' go_intB ?_
  | (with_reducible refine' go_eq rfl ?_)
  | (with_reducible refine' go_ne rfl ?_)
  | with_reducible refine' go_isN ?_
  | with_reducible refine' go_notN ?_
  | with_reducible refine' go_if ?_
  | with_reducible refine' go_sub ?_
  | with_reducible refine' go_par ?_
  | with_reducible refine' go_sl ?_
  | with_reducible refine' go_part ?_
  | with_reducible refine' go_pint ?_
  | with_reducible refine' go_nopart ?_
  | ((with_reducible refine' go_lenL ?hh ?_); (case hh => walk_at "heap"))
  | ((with_reducible refine' go_lenT ?hh ?_); (case hh => walk_at "heap"))
  | ((with_reducible refine' go_lenS ?hh ?_); (case hh => assumption))
  | with_reducible refine' go_gcons ?_
  | with_reducible refine' go_gnil ?_
  | with_reducible refine' go_kw ?_
  | with_reducible refine' go_par2 ?_
  | with_reducible refine' go_next ?_
  | with_reducible refine' go_drop ?_
  | with_reducible refine' go_and ?_
  | with_reducible refine' go_or ?_
  | with_reducible refine' go_not ?_
  | with_reducible refine' go_B ?_
  | with_reducible refine' go_andV ?_
  | with_reducible refine' go_orV ?_
  | with_reducible refine' go_notV ?_
  | with_reducible refine' go_chain ?_
  | with_reducible refine' go_un ?_
  | with_reducible refine' go_U ?_
  | with_reducible refine' go_bm ?_
  | with_reducible refine' go_tup ?_
  | with_reducible refine' go_lst ?_
  | with_reducible refine' go_forR1 ?_
  | with_reducible refine' go_forR2 ?_
  | with_reducible refine' go_forL ?_
  | with_reducible refine' go_forT ?_
  | with_reducible refine' go_forE ?_
  | with_reducible refine' go_lcR1 ?_
  | with_reducible refine' go_lcL ?_
  | with_reducible refine' go_lcT ?_
  | ((with_reducible refine' go_tyL ?hh ?_); (case hh => walk_at "heap"))
  | ((with_reducible refine' go_new ?hz ?_); (case hz => exact Nat.le_of_ble_eq_true rfl))
  | (with_reducible refine' ⟨_, rfl, ?_⟩)
  ))
--MACEND
section
variable {P : Program} {w : World} {K : PySem.W.Frag} {mg : Str → Option Value} {base : Heap}
theorem stg_stage {b : Int} {s : Stg} (h : s.ok b) : isStage s.d = true := by
  have n1 : ¬ ((("dial" : String) : Str) = "mix") := by decide +kernel
  have n2 : ¬ ((("pass" : String) : Str) = "mix") := by decide +kernel
  have n3 : ¬ ((("pass" : String) : Str) = "dial") := by decide +kernel
  cases s with
  | mix lo => simp [Stg.d, isStage, isNat, h.1]
  | dial lo => simp [Stg.d, isStage, isInt, n1]
  | pass lo hi =>
    have : 0 ≤ hi := Int.le_trans h.1 h.2.1
    simp [Stg.d, isStage, isBand, n2, n3, h.1, h.2.1, this]
theorem dqa_get {H : Hp} : ∀ {vs : List V} {ss : List Stg} {i : Nat} {v : V}, DqAll H vs (ss.map Stg.d) → vs[i]? = some v → ∃ s, ss[i]? = some s ∧ Dq H v s.d := fun {vs ss i v} h e => by
  obtain ⟨d, h1, h2⟩ := h.get e
  rw [List.getElem?_map] at h1
  cases q : ss[i]? with
  | none => rw [q] at h1; cases h1
  | some s => rw [q] at h1; cases h1; exact ⟨s, rfl, h2⟩
def spRecv : Sp := fun vs H Q _ => ∃ x b ss rate, vs = [x] ∧ Dq H x (radD ss rate) ∧ Rad b ss rate ∧ ∀ H', Ex H H' → Q .non H'
theorem dials_take {ss : List Stg} {i : Nat} {s : Stg} (h : ss[i]? = some s) (one : dials ss ≤ 1) (hd : s.isDial = true) : dials (ss.take i) = 0 := by
  have hlt : i < ss.length := (List.getElem?_eq_some_iff.mp h).1
  have e : ss = ss.take i ++ s :: ss.drop (i + 1) := by
    have e1 : ss[i] = s := (List.getElem?_eq_some_iff.mp h).2
    conv => lhs; rw [← List.take_append_drop i ss, List.drop_eq_getElem_cons hlt, e1]
  have e2 : dials ss = dials (ss.take i) + dials (s :: ss.drop (i + 1)) := by
    conv => lhs; rw [e]
    unfold dials
    rw [List.filter_append, List.length_append]
  have e3 : 1 ≤ dials (s :: ss.drop (i + 1)) := by
    unfold dials
    rw [List.filter_cons, if_pos hd]
    simp
  omega
theorem dials_more {ss : List Stg} {i : Nat} {s : Stg} (h : ss[i]? = some s) : dials (ss.take (i + 1)) = dials (ss.take i) + (if s.isDial then 1 else 0) := by
  have hlt := (List.getElem?_eq_some_iff.mp h).1
  rw [List.take_succ, h]
  exact dials_app _ _
/-! ### tones -/
/-- what a stage makes of a number -/
def Stg.step (dial : Int) : Stg → Option Int → Option Int
  | _, none => none
  | .mix lo, some n => some (if n - lo < 0 then -(n - lo) else n - lo)
  | .dial a, some n => some (if n - (dial + a) < 0 then -(n - (dial + a)) else n - (dial + a))
  | .pass lo hi, some n => if lo ≤ n ∧ n ≤ hi then some n else none
def sampled (rate : Int) : Option Int → Option Int
  | none => none
  | some n => some (if rate - n % rate < n % rate then rate - n % rate else n % rate)
def tones (dial : Int) : List Stg → Option Int → List (Option Int)
  | [], _ => []
  | s :: ss, n => s.step dial n :: tones dial ss (s.step dial n)
def lastT (dial : Int) : List Stg → Option Int → Option Int
  | [], n => n
  | s :: ss, n => lastT dial ss (s.step dial n)
def allTones (dial : Int) (ss : List Stg) (rate : Option Int) (n : Int) : List (Option Int) :=
  tones dial ss (some n) ++ (match rate with | none => [] | some r => [sampled r (lastT dial ss (some n))])
def optV : Option Int → V
  | none => .non
  | some i => .int i
theorem tones_take (dial : Int) : ∀ (ss : List Stg) (n : Option Int) (i : Nat) (s : Stg), ss[i]? = some s → tones dial (ss.take (i + 1)) n = tones dial (ss.take i) n ++ [s.step dial (lastT dial (ss.take i) n)] ∧ lastT dial (ss.take (i + 1)) n = s.step dial (lastT dial (ss.take i) n)
  | [], _, _, _, h => by simp at h
  | t :: ss, n, 0, s, h => by
    simp at h
    subst h
    simp [tones, lastT]
  | t :: ss, n, i + 1, s, h => by
    have := tones_take dial ss (t.step dial n) i s (by simpa using h)
    simp only [List.take_succ_cons, tones, lastT]
    exact ⟨by rw [this.1]; rfl, this.2⟩
theorem tones_len (dial : Int) : ∀ (ss : List Stg) (n : Option Int), (tones dial ss n).length = ss.length
  | [], _ => rfl
  | s :: ss, n => by simp [tones, tones_len dial ss]
def Stg.center (dial : Int) : Stg → V
  | .mix lo => .int lo
  | .dial a => .int (dial + a)
  | .pass _ _ => .non
def spMixing : Sp := fun vs H Q _ => ∃ (x : V) (s : Stg) (dial : Int), vs = [x, .int dial] ∧ Dq H x s.d ∧ ∀ H', Ex H H' → Q (s.center dial) H'
abbrev s_mixing_tone : Stmt := top 7
theorem sc_mixing_tone : FnScope ["stage", "dial"] ["stage", "dial"] (defScope s_mixing_tone) := ⟨rfl, rfl, rfl, by decide +kernel, rfl, by decide +kernel, by decide +kernel⟩
theorem ok_mixing_tone {f : Addr} {fd : FuncData} (F : Fun K "mixing_tone" "mixing_tone" s_mixing_tone f fd) : FnOk P w K mg base CX0 1 f fd ["stage", "dial"] spMixing := by
  refine F.ok sc_mixing_tone (fun vs H Q E h => ?_) (fun cdv A outer s H vs Q E hr h => ?_)
  · obtain ⟨x, s, dial, rfl, _⟩ := h
    rfl
  · obtain ⟨x, s, dial, rfl, hd, k⟩ := h
    refine ⟨_, (pss_cons (ps_if (pt_cmpR op_eq (pe_ix ix_tup (pv 0) pe_int (fun _ _ => rfl)) pe_str (nomark _))
  (pss_one (ps_ret (pe_ix ix_tup (pv 0) pe_int (fun _ _ => rfl))))
  pss_nil)
  (pss_cons (ps_if (pt_cmpR op_eq (pe_ix ix_tup (pv 0) pe_int (fun _ _ => rfl)) pe_str (nomark _))
  (pss_one (ps_ret (pe_op op_add (pv 1) (pe_ix ix_tup (pv 0) pe_int (fun _ _ => rfl)))))
  pss_nil)
  (pss_one (ps_ret pe_non)))), ?_⟩
    obtain ⟨a, rfl, ha⟩ := stg_at hd
    have n1 : decide (V.str "dial" = V.str "mix") = false := by decide +kernel
    have n2 : decide (V.str "pass" = V.str "mix") = false := by decide +kernel
    have n3 : decide (V.str "pass" = V.str "dial") = false := by decide +kernel
    cases s with
    | mix lo =>
      have ha' : Rd H a (.tup [.str "mix", .int lo]) := ha
      walk_at "rd"
      refine ite2 (fun _ => ?_) (fun c => absurd (decide_eq_true rfl) c)
      walk_at "rd"
      exact k _ (Ex.refl _)
    | dial lo =>
      have ha' : Rd H a (.tup [.str "dial", .int lo]) := ha
      walk_at "rd"
      rw [n1]
      refine iteF ?_
      walk_at "rd"
      refine ite2 (fun _ => ?_) (fun c => absurd (decide_eq_true rfl) c)
      walk_at "rd"
      exact k _ (Ex.refl _)
    | pass lo hi =>
      have ha' : Rd H a (.tup [.str "pass", .int lo, .int hi]) := ha
      walk_at "rd"
      rw [n2]
      refine iteF ?_
      walk_at "rd"
      rw [n3]
      refine iteF ?_
      walk_at "rd"
      exact k _ (Ex.refl _)
def spBehind : Sp := fun vs H Q _ => ∃ (x : V) (s : Stg) (dial : Int) (n : Option Int), vs = [x, .int dial, optV n] ∧ Dq H x s.d ∧ ∀ H', Ex H H' → Q (optV (s.step dial n)) H'
abbrev s_behind_stage : Stmt := top 8
theorem sc_behind_stage : FnScope ["stage", "dial", "number", "center"] ["stage", "dial", "number"] (defScope s_behind_stage) := ⟨rfl, rfl, rfl, by decide +kernel, rfl, by decide +kernel, by decide +kernel⟩
theorem ok_behind_stage {f : Addr} {fd : FuncData} (F : Fun K "behind_stage" "behind_stage" s_behind_stage f fd) (m_abs : mg "abs" = none) (h_mixing_tone : Has P w K mg base 1 "mixing_tone" spMixing) : FnOk P w K mg base CX0 2 f fd ["stage", "dial", "number"] spBehind := by
  refine F.ok sc_behind_stage (fun vs H Q E h => ?_) (fun cdv A outer s H vs Q E hr h => ?_)
  · obtain ⟨x, s, dial, n, rfl, _⟩ := h
    rfl
  · obtain ⟨x, s, dial, n, rfl, hd, k⟩ := h
    refine ⟨_, (pss_cons (ps_if (pt_cmpR op_isN1 (pv 2) pe_non (nomark _))
  (pss_one (ps_ret pe_non))
  pss_nil)
  (pss_cons (ps_set (i := 3) sc_behind_stage.nd rfl (Or.inl rfl) (pe_hs h_mixing_tone hr rfl (pa_cons (pv 0) (pa_cons (pv 1) pa_nil))))
  (pss_cons (ps_if (pt_cmpR op_notN1 (pv 3) pe_non (nomark _))
  (pss_one (ps_ret (pe_callB call_absQ rfl m_abs (by decide +kernel) (pa_cons (pe_op op_sub (pv 2) (pv 3)) pa_nil))))
  pss_nil)
  (pss_cons (ps_if (pt_chain op_le op_le (pe_ix ix_tup (pv 0) pe_int (fun _ _ => rfl)) (pv 2) (pe_ix ix_tup (pv 0) pe_int (fun _ _ => rfl)))
  (pss_one (ps_ret (pv 2)))
  pss_nil)
  (pss_one (ps_ret pe_non)))))), ?_⟩
    cases n with
    | none =>
      walk_at "rd"
      refine ite2 (fun _ => ?_) (fun c => absurd (decide_eq_true rfl) c)
      walk_at "rd"
      have e : s.step dial none = none := by cases s <;> rfl
      have := k H (Ex.refl _)
      rw [e] at this
      exact this
    | some n =>
      have hi : decide (optV (some n) = V.non) = false := by simp [optV]
      walk_at "rd"
      rw [hi]
      refine iteF ?_
      walk_at "rd"
      refine ⟨x, s, dial, rfl, hd, fun H1 e1 => ?_⟩
      walk_at "rd"
      cases s with
      | mix lo =>
        have h2 : (!decide ((Stg.mix lo).center dial = V.non)) = true := by simp [Stg.center]
        rw [h2]
        refine iteT ?_
        show tRet (tCB rAbsQ (tCons (tOp (rI0 fun i j => .int (i - j)) (tVar 2) (tVar 3)) tNil)) _ [some x, some (.int dial), some (.int n), some (.int lo)] H1
        walk_at "rd"
        exact k _ e1
      | dial lo =>
        have h2 : (!decide ((Stg.dial lo).center dial = V.non)) = true := by simp [Stg.center]
        rw [h2]
        refine iteT ?_
        show tRet (tCB rAbsQ (tCons (tOp (rI0 fun i j => .int (i - j)) (tVar 2) (tVar 3)) tNil)) _ [some x, some (.int dial), some (.int n), some (.int (dial + lo))] H1
        walk_at "rd"
        exact k _ e1
      | pass lo hi =>
        have h2 : (!decide ((Stg.pass lo hi).center dial = V.non)) = false := by simp [Stg.center]
        rw [h2]
        refine iteF ?_
        obtain ⟨a, rfl, ha⟩ := stg_at (hd.ex e1)
        have ha' : Rd H1 a (.tup [.str "pass", .int lo, .int hi]) := ha
        have hn : optV (some n) = .int n := rfl
        walk_at "rd"
        rw [hn]
        walk_at "rd"
        have fin : ∀ r, (if lo ≤ n ∧ n ≤ hi then some n else none) = r → Q (optV r) H1 := fun r e => by
          have := k H1 e1
          rw [show (Stg.pass lo hi).step dial (some n) = (if lo ≤ n ∧ n ≤ hi then some n else none) from rfl, e] at this
          exact this
        refine ite2 (fun c1 => ?_) (fun c1 => ?_)
        · have c1' : lo ≤ n := by simpa using c1
          walk_at "rd"
          refine ite2 (fun c2 => ?_) (fun c2 => ?_)
          · have c2' : n ≤ hi := by simpa using c2
            walk_at "rd"
            exact fin (some n) (if_pos ⟨c1', c2'⟩)
          · have c2' : ¬ n ≤ hi := by simpa using c2
            walk_at "rd"
            exact fin none (if_neg fun z => c2' z.2)
        · have c1' : ¬ lo ≤ n := by simpa using c1
          walk_at "rd"
          refine iteF ?_
          walk_at "rd"
          exact fin none (if_neg fun z => c1' z.1)
def spSampler : Sp := fun vs H Q _ => ∃ (r : Int) (n : Option Int), vs = [.int r, optV n] ∧ 2 ≤ r ∧ ∀ H', Ex H H' → Q (optV (sampled r n)) H'
abbrev s_behind_sampler : Stmt := top 9
theorem sc_behind_sampler : FnScope ["rate", "number", "above"] ["rate", "number"] (defScope s_behind_sampler) := ⟨rfl, rfl, rfl, by decide +kernel, rfl, by decide +kernel, by decide +kernel⟩
theorem ok_behind_sampler {f : Addr} {fd : FuncData} (F : Fun K "behind_sampler" "behind_sampler" s_behind_sampler f fd) (m_min : mg "min" = none) : FnOk P w K mg base CX0 1 f fd ["rate", "number"] spSampler := by
  refine F.ok sc_behind_sampler (fun vs H Q E h => ?_) (fun cdv A outer s H vs Q E hr h => ?_)
  · obtain ⟨r, n, rfl, _⟩ := h
    rfl
  · obtain ⟨r, n, rfl, h2, k⟩ := h
    refine ⟨_, (pss_cons (ps_if (PW.pt (pw_or (pt_cmpR op_isN1 (pv 1) pe_non (nomark _)) (pw_or1 (pt_cmpR op_isN1 (pv 0) pe_non (nomark _)))))
  (pss_one (ps_ret (pv 1)))
  pss_nil)
  (pss_cons (ps_set (i := 2) sc_behind_sampler.nd rfl (Or.inl rfl) (pe_op op_mod (pv 1) (pv 0)))
  (pss_one (ps_ret (pe_callB (call_minQ rfl) rfl m_min boot_min (pa_cons (pv 2) (pa_cons (pe_op op_sub (pv 0) (pv 2)) pa_nil))))))), ?_⟩
    have h0 : 0 < r := by omega
    cases n with
    | none =>
      walk_at "rd"
      refine ite2 (fun _ => ?_) (fun c => absurd (decide_eq_true rfl) c)
      refine iteT ?_
      walk_at "rd"
      exact k _ (Ex.refl _)
    | some n =>
      have hi : decide (optV (some n) = V.non) = false := by simp [optV]
      have hn : optV (some n) = .int n := rfl
      walk_at "rd"
      rw [hi]
      refine iteF ?_
      walk_at "rd"
      refine ite2 (fun c => absurd (of_decide_eq_true c) (by simp)) (fun _ => ?_)
      walk_at "rd"
      rw [hn]
      walk_at "rd"
      exact k _ (Ex.refl _)
end
end Kx

set_option Elab.async false
set_option linter.all false
set_option maxRecDepth 100000
namespace HX
open PySem PySem.Spec PyProof.Rows L2
open Evl (Ex)
/-! ### data of moderate size -/
structure Fine (w k : Nat) (d : PyData) : Prop where
  sh : d.showable = true
  lv : d.leavesShort 200 = true
  wt : d.weight ≤ w
  dp : d.depth ≤ k
theorem Fine.mono {w w' k k' : Nat} {d : PyData} (h : Fine w k d) (hw : w ≤ w') (hk : k ≤ k') : Fine w' k' d := ⟨h.sh, h.lv, Nat.le_trans h.wt hw, Nat.le_trans h.dp hk⟩
theorem Fine.none : Fine 0 0 .none := ⟨rfl, rfl, Nat.le_refl _, Nat.le_refl _⟩
theorem Fine.bool (b : Bool) : Fine 0 0 (.bool b) := ⟨rfl, rfl, Nat.le_refl _, Nat.le_refl _⟩
theorem Fine.int {i : Int} (h : i.natAbs < 2 ^ 600) : Fine 600 0 (.int i) := by
  have hl : i.natAbs.log2 < 600 := PySem.Flt.log2_lt_of (by decide) h
  have ht : (toString i).length ≤ 200 := Nat.le_trans (int_text_length_le10 (k := 182) (by decide) (Nat.lt_of_lt_of_le h (by decide +kernel))) (by decide)
  refine ⟨by simp [PyData.showable]; omega, ?_, ?_, Nat.le_refl _⟩
  · simp only [PyData.leavesShort, PyData.shown]
    refine decide_eq_true ?_
    show (Str.ofString (toString i)).length ≤ 200
    rw [PySem.ofString_length]
    exact ht
  · simp only [PyData.weight]
    split <;> omega
theorem Fine.str {x : Str} {n : Nat} (h : (PyData.str x).leavesShort 200 = true) (hn : x.cps.size ≤ n) : Fine n 0 (.str x) := ⟨rfl, h, hn, Nat.le_refl _⟩
theorem fine_all {w k : Nat} : ∀ {l : List PyData}, (∀ x ∈ l, Fine w k x) → PyData.showableAll l = true ∧ PyData.leavesShortAll 200 l = true ∧ PyData.weightAll l ≤ l.length * (w + 1) ∧ PyData.depthAll l ≤ k
  | [], _ => ⟨rfl, rfl, by simp [PyData.weightAll], by simp [PyData.depthAll]⟩
  | x :: l, h => by
    obtain ⟨h1, h2, h3, h4⟩ := fine_all fun y hy => h y (List.mem_cons_of_mem _ hy)
    have hx := h x List.mem_cons_self
    refine ⟨by simp [PyData.showableAll, hx.sh, h1], by simp [PyData.leavesShortAll, hx.lv, h2], ?_, ?_⟩
    · simp only [PyData.weightAll, List.length_cons]
      have := hx.wt
      rw [Nat.add_mul]
      omega
    · simp only [PyData.depthAll]
      have := hx.dp
      omega
theorem Fine.list {w k : Nat} {l : List PyData} (h : ∀ x ∈ l, Fine w k x) : Fine (l.length * (w + 1)) (k + 1) (.list l) := by
  obtain ⟨h1, h2, h3, h4⟩ := fine_all h
  exact ⟨by simpa [PyData.showable] using h1, by simpa [PyData.leavesShort] using h2, by simpa [PyData.weight] using h3, by simpa [PyData.depth] using h4⟩
theorem Fine.tuple {w k : Nat} {l : List PyData} (h : ∀ x ∈ l, Fine w k x) : Fine (l.length * (w + 1)) (k + 1) (.tuple l) := by
  obtain ⟨h1, h2, h3, h4⟩ := fine_all h
  exact ⟨by simpa [PyData.showable] using h1, by simpa [PyData.leavesShort] using h2, by simpa [PyData.weight] using h3, by simpa [PyData.depth] using h4⟩
theorem Fine.dict : Fine 0 1 (.dict []) := ⟨rfl, rfl, by simp [PyData.weight, PyData.weightKv], by simp [PyData.depth, PyData.depthKv]⟩
theorem Fine.shw {w k : Nat} {d : PyData} (h : Fine w k d) (hw : w ≤ 80000) (hk : k ≤ 60) : Shw d := by
  refine ⟨h.sh, ?_, Nat.le_trans h.dp hk⟩
  have := PyData.shown_le 200 (by decide) d h.lv
  have e : sizeLine = 16777216 := sizeLine_eq
  have hw' := Nat.le_trans h.wt hw
  omega
theorem two {l : List PyData} {a b : PyData} {R : PyData → Prop} (ha : R a) (hb : R b) : ∀ x ∈ [a, b], R x := by
  intro x hx
  rcases List.mem_cons.mp hx with rfl | hx
  · exact ha
  · rw [List.mem_singleton.mp hx]; exact hb
theorem go_repr {H : Hp} {Q : VK} {x : V} {d : PyData} {w k : Nat} (h : Dq H x d) (hf : Fine w k d) (hw : w ≤ 80000) (hk : k ≤ 60) (q : Q (.str d.shown) H) : rRepr [x] H Q := ⟨x, d, rfl, h, hf.shw hw hk, q⟩
end HX
namespace HX
open PySem PySem.Spec PyProof.Rows L2
def rListQ (K : PySem.W.Frag) : List V → Hp → VK → Prop := fun xs H Q => ∃ p ys, xs = [.ref p] ∧ (SqL K H p ys ∨ SqT K H p ys) ∧ ∀ l, H l = none → Q (.ref l) (upd H l (.lst ys))
theorem call_listQ {X : Cx} : CallR X (.type "list") (rListQ X.K) := call_list_of
theorem go_listL {K : PySem.W.Frag} {H : Hp} {Q : VK} {p : Addr} {ys : List V} (h : Rd H p (.lst ys)) (k : ∀ l, H l = none → Q (.ref l) (upd H l (.lst ys))) : rListQ K [.ref p] H Q := ⟨p, ys, rfl, .inl (.inl h), k⟩
end HX

set_option Elab.async false
set_option linter.all false
set_option maxRecDepth 100000
set_option maxHeartbeats 2000000
/-! an own error over ValueError whose __init__ says super().__init__(text) and then stores one field -/
namespace SupX
open PySem PySem.W PySem.Calls PyProof.Rows PySem.HandSPX
/-! ### the bound __init__ of ValueError, called -/
section
variable {prog : Program} {w : World} {A : Around} {E : Value → Shared → Prop} {h : Heap} {g : Array GenState} {d : Drawn} {t : Nat} {os : OsState}
variable {nm q : Str} {C N : Addr} {bs bm : List Value} {hdct : Bool} {sn : List Str} {sub : List Value} {ab : Bool} {col : Option Bool} {dd : Option Addr} {k0 k1 k2 k3 k5 : Option Value}
theorem call_mw {u e t0 : Addr} {vs : List Value} {Q : Value → Shared → Prop}
    (hC : h.get? C = some (excClassObj nm q C N bs bm hdct sn sub ab col dd k0 k1 k2 k3 k5 "ValueError.__new__"))
    (he : h.get? e = some (excO C t0)) (hu : h.get? u = some (kxs_mw "ValueError.__init__" e)) (hz : vs.length ≤ sizeLine)
    (hq : ∀ h' t1, (∀ b o, b ≠ e → h.get? b = some o → h'.get? b = some o) → h'.get? e = some (excO C t1) → Q .none ⟨h', g, d, t, os⟩) :
    wpAny (model prog w) A (call (.ref u) vs) Q E ⟨h, g, d, t, os⟩ := by
  have c1 : (Value.type "method-wrapper" == Value.type "method" || Value.type "method-wrapper" == Value.type "builtin_function_or_method" || Value.type "method-wrapper" == Value.type "method-wrapper") = true := by decide
  refine wpAny_call ?_
  refine codeAny_of_tree ?_
  show wpAny _ A.in1 (callAny (.ref u) ⟨vs, []⟩) _ _ _
  simp only [callAny]
  refine wpAny_bind ?_
  refine wpAny_load hu ?_
  simp only [kxs_mw, c1, if_true]
  refine KFB.if_so (by decide) ?_
  refine wpAny_bind ?_
  refine check_bound_init F.excBase_ValueError.toExcCallFacts hC he rfl ?_
  refine wpAny_bind (wpAny_pure ?_)
  refine wpAny_pure ?_
  refine ⟨plainId_quiet F.excBase_ValueError.init.plain _, ?_⟩
  refine codeAny_builtin F.excBase_ValueError.initEntry ?_
  rw [Around.under_plainId F.excBase_ValueError.init.plain _]
  wp_walk
  refine hq _ h.objs.size (fun b o hb ho => ?_) ?_
  · rw [Heap.get?_update_other _ _ (Ne.symm hb)]
    exact Heap.get?_push_of_some _ ho
  · rw [Heap.get?_update_self _ (Heap.get?_push_of_some _ he) rfl]
    rfl
end
/-- o.name(e), o told of a known activation -/
theorem at_method {M : Model} {A : Around} {c : Code} {E : Value → Shared → Prop} {s : Shared} {env : Env} {o e : Expr} {name : Str} {apos pos : Pos} {Q : Value → Shared → Prop} (hl : (apos.endLine == pos.line) = true)
    (hf : methodCallForm 1 (backTo pos (starEach [e] env)) [] = true)
    (h : PySem.wpAt M A c (attributeBase o name env (eval o env)) (fun ov s₁ => wpAny M A (getMethod ov name (do return (← importBound o env).getD true)) (fun fx s₂ => wpAny M A (callWith pos fx.1 fx.2 (backTo pos (starEach [e] env)) []) Q E s₂) E s₁) E s) :
    PySem.wpAt M A c (eval (.Call (.Attribute o name apos) [e] [] pos) env) Q E s := by
  have hp : methodCallPos true o env apos pos = pure pos := by unfold methodCallPos; simp [hl]
  rw [arm_eval_Call]
  refine PySem.wpAt_bind (ks_wpAt_mono h (fun ov s₁ h₁ => ?_) fun _ _ z => z)
  refine PySem.wpAt_of_wpAny ?_
  refine wpAny_bind (wpAny_standAt ?_)
  unfold methodCall
  rw [show methodCallForm ([e].length + ([] : List Keyword).length) (backTo pos (starEach [e] env)) (backToKw pos (keywordEach [] env)) = true from hf]
  refine wpAny_bind (wpAny_holding ?_)
  exact wpAny_mono h₁ (fun fx s₂ h₂ => wpAny_bind (wpAny_of_eq hp h₂)) fun _ _ z => z
/-! ### the text of __init__ -/
def iA (f : Str) (p1 p2 : Pos) : Arguments :=
  { posonlyargs := [], args := [{ arg := "self", annotation := none, pos := p1 }, { arg := f, annotation := none, pos := p2 }], vararg := none, kwonlyargs := [], kw_defaults := [], kwarg := none, defaults := [] }
def iB (f msg : Str) (p1 p2 p3 p4 p5 p6 q1 q2 q3 q4 : Pos) : List Stmt :=
  [.Expr (.Call (.Attribute (.Call (.Name "super" p1) [] [] p2) "__init__" p3) [.Constant (.str msg) 0 p4] [] p5) p6, .Assign [.Attribute (.Name "self" q1) f q2] (.Name f q3) q4]
def iS (f : Str) : Scope :=
  { kind := .function, names := [(PySem.Str.ofString "self", .local), (f, .local), (PySem.Str.ofString "__class__", .free), (PySem.Str.ofString "super", .globalImplicit)], isGenerator := false, isCoroutine := false, more := [] }
/-- what the written part says of the error at C and of its __init__ at fI -/
structure ErrTxt (P : Program) (K : Frag) (mg : Str → Option Value) (nmE fld : Str) (C fI : Addr) : Prop where
  okf : fld = "index" ∨ fld = "word"
  gC : mg nmE = some (.ref C)
  cls : ∃ nm q N bs bm sn sub ab col dd k0 k1 k2 k3 k5, K.lookup C = some (excClassObj nm q C N bs bm true sn sub ab col dd k0 k1 k2 k3 k5 "ValueError.__new__") ∧ refsVE bm = true
  sa : findIn K (.ref C) "__setattr__" = some (some (.builtin "object.__setattr__"))
  ga : findIn K (.ref C) "__getattribute__" = some (some (.builtin "BaseException.__getattribute__"))
  gg : findIn K (.ref C) "__getattr__" = some none
  noN : findIn K (.ref C) fld = some none
  iC : findIn K (.ref C) "__init__" = some (some (.ref fI))
  tC : typeIn K (.ref fI) = some (.type "function")
  kC : keepIn K (.ref C) = true
  exC : subIn K (.ref C) (.type "BaseException") = some true
  veC : subIn K (.ref C) (.type "ValueError") = some true
  meC : mroIn K C (.ref C) = some true
  tyC : typeIn K (.ref C) = some (.type "type")
  hdC : hasDictIn K C = true
  te : exmOne K (.ref C) (.ref C) = some true
  sup : ks_superIn K C C "__init__" = some (some (.builtin "ValueError.__init__"))
  op : nsIn K cStatics "thirdparty.any" = some none
  gs : mg "super" = none
  top : (P.main.scope.names.lookup ("super" : Str)).isSome = false
  fn : ∃ (oc : Value) (od : Option Addr) (doc pm : Value) (an : Option Addr) (ct qn : Value) (q : Str) (osl : Array (Option Value)) (msg : Str) (p1 p2 a1 a2 a3 a4 a5 a6 q1 q2 q3 q4 : Pos) (cc cda : Addr)
      (cl : Value) (cld : Option Addr) (csl : Array (Option Value)) (dl : Value) (dld : Option Addr) (dsl : Array (Option Value)) (vs : Array Value) (file : Str) (tf : Tok),
    K.lookup fI = some ⟨oc, od, .func (fnX "__init__" q (iA fld p1 p2) (iB fld msg a1 a2 a3 a4 a5 a6 q1 q2 q3 q4) (iS fld) [("__class__", cc)] .none .none doc pm an (.ref cda) ct), osl⟩ ∧ codeIn K (.ref cda) q = true ∧
      K.lookup cc = some ⟨cl, cld, .cell (some (.ref C)), csl⟩ ∧ K.lookup cda = some ⟨dl, dld, .fields vs, dsl⟩ ∧ vs[2]? = some (.str file tf) ∧ ((P.main.file : Str) == file) = true ∧ (a3.endLine == a5.line) = true
/-- what __init__ leaves of a fresh exception at x -/
structure InitEnd (fld : Str) (h h' : Heap) (x C dx t1 : Addr) (v : Value) : Prop where
  keep : ∀ b o, b ≠ x → h.get? b = some o → h'.get? b = some o
  obj : h'.get? x = some { cls := .ref C, dict := some dx, data := .fields #[.ref t1, .none, .none, .none, .bool false, .none] }
  dbig : h.objs.size ≤ dx
  dne : dx ≠ x
  ns : h'.Ns1 dx (fun y => if y = fld then some v else none)
structure OwnMade (fld : Str) (h h' : Heap) (e C d : Addr) (v : Value) : Prop where
  keep : ∀ b o, h.get? b = some o → h'.get? b = some o
  new : h.objs.size ≤ e
  obj : ∃ t1 : Addr, h'.get? e = some { cls := .ref C, dict := some d, data := .fields #[.ref t1, .none, .none, .none, .bool false, .none] }
  dbig : h.objs.size ≤ d
  dne : d ≠ e
  ns : h'.Ns1 d (fun y => if y = fld then some v else none)
/-- what stands below: the globals, the built-ins -/
structure Gnd (mg : Str → Option Value) (h : Heap) : Prop where
  lim : h.NoLimit
  g : h.Ns mainGlobals mg
  b : ∃ mb, h.Ns builtinsNs mb ∧ ∀ x : Str, x ≠ "__name__" → mb x = bootBuiltins x
theorem Gnd.keeps {mg : Str → Option Value} {h h' : Heap} (G : Gnd mg h) (k : ∀ b o, h.get? b = some o → h'.get? b = some o) : Gnd mg h' :=
  ⟨G.lim.keeps k, G.g.keeps k, let ⟨mb, q1, q2⟩ := G.b; ⟨mb, q1.keeps k, q2⟩⟩
section
variable {P : Program} {w : World} {A : Around} {E : Value → Shared → Prop} {R : Result → Shared → Prop} {s : Shared} {K : Frag} {mg : Str → Option Value} {nmE fld : Str} {C fI : Addr}
theorem sup_init (T : ErrTxt P K mg nmE fld C fI) {x t0 : Addr} {v : Value} {args : Args} (hargs : args = ⟨[.ref x, v], []⟩ ∨ args = ⟨[.ref x], [(fld, v)]⟩) (X : K.In s.heap) (G : Gnd mg s.heap) (hx : s.heap.get? x = some (excO C t0)) (hnx : K.lookup x = none) (hroom : A.depth < recursionLimit)
    (hq : ∀ h' tk dx t1, InitEnd fld s.heap h' x C dx t1 v → R (.ok (.ret .none)) { s with heap := h', toks := tk }) :
    codeAny (model P w) A (.call (.ref fI) args) R s := by
  obtain ⟨oc, od, doc, pm, an, ct, qn, q, osl, msg, p1, p2, a1, a2, a3, a4, a5, a6, q1, q2, q3, q4, cc, cda, cl, cld, csl, dl, dld, dsl, vs, file, tf, ho, hcd, hcc, hcda, hvs, hfile, hln⟩ := T.fn
  obtain ⟨nm, qq, N, bs, bm, sn, sub, ab, col, dd, k0, k1, k2, k3, k5, hC, hbm⟩ := T.cls
  have hcl : clsIn K C = some { name := nm, bases := bs, mro := .ref C :: bm, ns := N, qualname := qq, hasDict := true, slotNames := sn, subclasses := sub, abstract := ab, collection := col, hasDel := false } := by unfold clsIn; rw [hC] <;> rfl
  obtain ⟨lim, gg, mb, gb, hbb⟩ := G
  have main : ∀ (fld : Str), (args = ⟨[.ref x, v], []⟩ ∨ args = ⟨[.ref x], [(fld, v)]⟩) → (fld = "index" ∨ fld = "word") → findIn K (.ref C) fld = some none →
      K.lookup fI = some ⟨oc, od, .func (fnX "__init__" q (iA fld p1 p2) (iB fld msg a1 a2 a3 a4 a5 a6 q1 q2 q3 q4) (iS fld) [("__class__", cc)] .none .none doc pm an (.ref cda) ct), osl⟩ →
      (∀ h' tk dx t1, InitEnd fld s.heap h' x C dx t1 v → R (.ok (.ret .none)) { s with heap := h', toks := tk }) → codeAny (model P w) A (.call (.ref fI) args) R s := by
    intro fld hargs okf noN ho hq
    have kI : (iS fld).names.lookup ("self" : Str) = some .local := rfl
    have kF : (iS fld).names.lookup fld = some .local := by rcases okf with rfl | rfl <;> decide
    have kC : (iS fld).names.lookup ("__class__" : Str) = some .free := by rcases okf with rfl | rfl <;> decide
    have kS : (iS fld).names.lookup ("super" : Str) = some .globalImplicit := by rcases okf with rfl | rfl <;> decide
    have kD : (fld == ("__debug__" : Str)) = false := by rcases okf with rfl | rfl <;> decide
    have bnd : ∀ s, BindsTo s (fnX "__init__" q (iA fld p1 p2) (iB fld msg a1 a2 a3 a4 a5 a6 q1 q2 q3 q4) (iS fld) [("__class__", cc)] .none .none doc pm an (.ref cda) ct) args [("self", .ref x), (fld, v)] := fun s => by
      rcases hargs with rfl | rfl <;> rcases okf with rfl | rfl <;> exact BindsTo.of_eq rfl
    have lkF : ([("self", Value.ref x), (fld, v)] : List (Str × Value)).reverse.lookup fld = some v := by simp [List.lookup]
    have lkS : ([("self", Value.ref x), (fld, v)] : List (Str × Value)).reverse.lookup ("self" : Str) = some (Value.ref x) := by rcases okf with rfl | rfl <;> rfl
    refine ks_codeAny_call_defAt (fd := fnX "__init__" q (iA fld p1 p2) (iB fld msg a1 a2 a3 a4 a5 a6 q1 q2 q3 q4) (iS fld) [("__class__", cc)] .none .none doc pm an (.ref cda) ct) (binds := [("self", .ref x), (fld, v)])
      hroom (X _ _ ho) rfl lim (codeRec_of X hcd) rfl (bnd _) (fun y hy => ?_) (fun y hy => ?_) (fun h₁ hns k => ?_) rfl rfl rfl
    · rcases okf with rfl | rfl <;> (intro z; simp [iS] at hy; rcases hy with rfl | rfl | rfl | rfl <;> cases z)
    · rcases List.mem_cons.mp hy with rfl | hy
      · exact kI
      · rw [List.mem_singleton.mp hy]
        exact kF
    have X₁ : K.In h₁ := X.keeps k
    have hx₁ := k _ _ hx
    show PySem.wpAt _ _ _ (execs _ _) _ _ _
    refine ks_wpAt_execs_cons (ks_wpAt_Expr_any (at_method hln rfl ?_))
    refine ks_wpAt_super_base (env := ksEnv q (iS fld) s.heap.objs.size fI (.ref cda) cc) kS kC (by decide) rfl (X₁ _ _ ho) rfl rfl rfl (X₁ _ _ hcda) rfl hvs hfile T.top ?_
    refine ks_loadName_global rfl kS (loadGlobal_builtin (env := ksEnv q (iS fld) s.heap.objs.size fI (.ref cda) cc) (gg.keeps k) T.gs (gb.keeps k) ((hbb _ (by decide +kernel)).trans (by first | boot_by_name | rfl | kernel_rfl)) ⟨rfl, ?_⟩)
    refine wpAny_loadName_free rfl kC rfl ⟨_, X₁ _ _ hcc, rfl⟩ ?_
    refine wpAny_loadName_local rfl kI hns lkS ?_
    refine ks_wpAny_isType_cls (X₁ _ _ hC) rfl ⟨rfl, ?_⟩
    have noc : ∀ c, (excO C t0).data ≠ .cls c := fun c z => nomatch z
    refine ks_wpAny_call_super (X₁ _ _ hC) rfl hx₁ rfl noc (looks_mroIn X₁ T.meC) (fun h₂ hso k₂ => ?_)
    have X₂ : K.In h₂ := X₁.keeps k₂
    have hx₂ := k₂ _ _ hx₁
    have hxC : x ≠ C := fun z => by rw [z] at hnx; rw [hnx] at hC; cases hC
    have hsup : alongIn K "__init__" (((.ref C :: bm : List Value).dropWhile (· != .ref C)).drop 1) = some (some (.builtin "ValueError.__init__")) := by
      have z := T.sup
      unfold ks_superIn at z
      rw [hcl] at z
      exact z
    have I₂ : InstAt h₂ x (excO C t0) C none := ⟨hx₂, rfl, rfl, trivial⟩
    refine kxs_getMethod kxs_ValueError hso (looks_opaque X₂ T.op) (l₀ := .ref C :: bm) ((looks_clsIn X₂ hcl).andThen .now) rfl X₂ hsup (I₂.type.andThen (looks_subIn X₂ T.veC)) hxC (by decide) ?_
    have hu : (h₂.push (kxs_mw "ValueError.__init__" x)).get? h₂.objs.size = some (kxs_mw "ValueError.__init__" x) := Heap.get?_push_at rfl rfl
    have k₃ : ∀ b o, h₂.get? b = some o → (h₂.push (kxs_mw "ValueError.__init__" x)).get? b = some o := fun b o e => Heap.get?_push_of_some _ e
    refine kxs_callWith (i := "ValueError.__init__") (x := x) rfl ?_
    refine evalArgs_plain (spliced_cons (wpAny_Constant_str (k := 0) (pos := a4) (spliced_nil ⟨hu, ?_⟩)))
    refine call_mw (X₂.keeps k₃ _ _ hC) (k₃ _ _ hx₂) hu (by show 1 ≤ sizeLine; rw [sizeLine_eq]; decide) fun h₄ t1 k₄ hx₄ => ?_
    -- self.f = f
    have kk : ∀ b o, b ≠ x → h₁.get? b = some o → h₄.get? b = some o := fun b o hb e => k₄ b o hb (k₃ b o (k₂ b o e))
    have hxL : s.heap.objs.size ≠ x := Nat.ne_of_gt (Heap.lt_size hx)
    have hns₄ : h₄.Ns s.heap.objs.size (fun y => ([("self", Value.ref x), (fld, v)] : List (Str × Value)).reverse.lookup y) := hns.at fun o e => kk _ _ hxL e
    have X₄ : K.In h₄ := fun b o e => kk b o (fun z => by rw [z, hnx] at e; cases e) (X₁ b o e)
    refine ks_wpAt_execs_cons (PySem.wpAt_of_wpAny ?_)
    refine plainObj_wpAny_Assign_Attribute ?_
    refine wpAny_Name (wpAny_loadName_local rfl kF hns₄ lkF ?_) kD
    refine wpAny_Name (wpAny_loadName_local rfl kI hns₄ lkS ?_) (by decide)
    refine set_plain X₄ (ox := excO C t1) (od := none) ⟨hx₄, rfl, rfl, trivial⟩ T.sa ?_
    refine exc_osa X₄ hx₄ hcl (show refsVE (.ref C :: bm) = true from hbm) rfl noN (fun h₅ tk₅ dx k₅ dn dne hx₅ hn₅ => ?_)
    refine PySem.wpAt_of_wpAny ?_
    show wpAny _ _ (execs [] _) _ _ _
    have lt1 : s.heap.objs.size ≤ dx := by
      have q1 : s.heap.objs.size < h₄.objs.size := hns₄.lt
      have q2 : h₄.objs.size ≤ dx := dn
      omega
    exact wpAny_execs_nil (hq h₅ tk₅ dx t1 ⟨fun b o hb e => k₅ b o hb (kk b o hb (k b o e)), hx₅, lt1, dne, hn₅⟩)
  exact main fld hargs T.okf T.noN ho hq
theorem sup_made (T : ErrTxt P K mg nmE fld C fI) {v : Value} (X : K.In s.heap) (G : Gnd mg s.heap) (hroom : A.depth + 1 < recursionLimit)
    (hq : ∀ h' tk e d, OwnMade fld s.heap h' e C d v → R (.ok (.ret (.ref e))) { s with heap := h', toks := tk }) :
    codeAny (model P w) A (.call (.ref C) ⟨[v], []⟩) R s := by
  obtain ⟨nm, qq, N, bs, bm, sn, sub, ab, col, dd, k0, k1, k2, k3, k5, hC, hbm⟩ := T.cls
  obtain ⟨hp, g, dr, tk, os⟩ := s
  have k : ∀ b o, hp.get? b = some o → ((hp.push (kdv_tup [v])).push (excO C hp.objs.size)).get? b = some o := fun b o e => Heap.get?_push_of_some _ (Heap.get?_push_of_some _ e)
  have hget : ((hp.push (kdv_tup [v])).push (excO C hp.objs.size)).get? (hp.objs.size + 1) = some (excO C hp.objs.size) := by heap_get
  have hnx : K.lookup (hp.objs.size + 1) = none := by
    cases e : K.lookup (hp.objs.size + 1) with
    | none => rfl
    | some o => exact absurd (Nat.lt_of_succ_lt (Heap.lt_size (X _ _ e : hp.get? (hp.objs.size + 1) = some o))) (Nat.lt_irrefl _)
  refine call_own F.excBase_ValueError (fun X => refsVE_contains X bm hbm) (X _ _ hC) (looks_findIn X T.iC) (fun self => bind_fn X self T.tC) (by show 1 ≤ sizeLine; rw [sizeLine_eq]; decide) ?_
  refine sup_init (s := ⟨(hp.push (kdv_tup [v])).push (excO C hp.objs.size), g, dr, tk, os⟩) T (.inl rfl) (X.keeps k) (G.keeps k) hget hnx hroom fun h' tk' dx t1 I => ?_
  have old : ∀ b o, hp.get? b = some o → h'.get? b = some o := fun b o e => I.keep b o (Nat.ne_of_lt (Nat.lt_succ_of_lt (Heap.lt_size e))) (k b o e)
  have z : hp.objs.size + 1 + 1 ≤ dx := by simpa only [Heap.size_push] using I.dbig
  exact ⟨rfl, hq h' tk' (hp.objs.size + 1) dx ⟨old, Nat.le_succ _, ⟨t1, I.obj⟩, by show hp.objs.size ≤ dx; omega, I.dne, I.ns⟩⟩
end
end SupX

set_option Elab.async false
set_option linter.all false
set_option maxRecDepth 100000
set_option maxHeartbeats 2000000
namespace HX
open PySem PySem.Spec PyProof.Rows L2
theorem relO_fld {fld : Str} {v : V} {v' : Value} (r : RelV v v') (f : Str) : RelO (List.lookup f [(fld, v)]) (if f = fld then some v' else none) := by
  by_cases hw : f = fld
  · subst hw
    rw [if_pos rfl, show List.lookup f [(f, v)] = some v from by simp [List.lookup]]
    exact r
  · rw [if_neg hw, show List.lookup f [(fld, v)] = none from by simp [List.lookup, show (f == fld) = false from by simpa using hw]]
    trivial
theorem gnd_of {X : Cx} {pins : List (Addr × Obj)} {σ : L2.St} {H : Hp} {s : Shared} (I : Inv X pins σ H s) : SupX.Gnd X.mg s.heap :=
  ⟨I.nolimit, I.mod.glob.keeps I.bk, let ⟨mb, q1, q2⟩ := I.mod.blt; ⟨mb, q1.keeps I.bk, q2⟩⟩
section
variable {X : Cx} {nmE fld : Str} {C fI : Addr}
/-- X(e), X an own error with one field -/
def tMkErr (fld : Str) (C : Addr) (ta : TA) : L2.St → Hp → XK → Prop := fun σ H Q => ta σ H fun vs H1 => ∃ v, vs = [v] ∧ ∀ d, H1 d = none → Q (.ref C) (some d) (upd H1 d (.xd [(fld, v)]))
theorem pmk_err {a : Expr} {ta : TA} {p pos : Pos} {k : Nat} (T : SupX.ErrTxt X.prog X.K X.mg nmE fld C fI) (hr : Room k X.A) (ha : PA X [a] ta) (hg : Gl X nmE) (hdb : (nmE == ("__debug__" : Str)) = false)
    (he : starEach (a :: []) X.env = (false, eval a X.env) :: starEach [] X.env := by rfl) (hpl : (backTo pos (starEach [] X.env)).any (·.1) = false := by rfl) :
    PMk X (.Call (.Name nmE p) [a] [] pos) (tMkErr fld C ta) := by
  intro pins s σ H Q I h
  refine wpAny_Call_Name_kw (ld_glob I hg T.gC ?_ hdb)
  refine PySem.W.callWith_K (h₀ := X.base) I.ok.mod.kin T.kC (thn (ha.run pos pins s σ H _ I h) fun us s1 hh => ?_) he hpl
  obtain ⟨vs, H1, I1, r1, v, ev, q1⟩ := hh
  subst ev
  refine ⟨I1.kIn, ?_⟩
  cases r1 with
  | cons rv rn =>
    rename_i v' us'
    cases rn
    show wpAny _ _ (call (.ref C) [v']) _ _ _
    have G1 := gnd_of I1
    obtain ⟨hp, g, dr, tk, os⟩ := s1
    refine wpAny_call (SupX.sup_made T I1.kIn G1 (by have := hr.dp; omega) fun h' tk' e d M => ?_)
    show MkP X pins σ Q (.ref e) ⟨h', g, dr, tk', os⟩
    obtain ⟨t1, hoe⟩ := M.obj
    have hns := M.ns
    obtain ⟨G', g1, g2⟩ := restrict h' fun b => decide (b ≠ e)
    have gk : ∀ b, b ≠ e → G'.get? b = h'.get? b := fun b hb => g1 b (decide_eq_true hb)
    have ge : G'.get? e = none := g2 e (by simp)
    have old : ∀ b o, hp.get? b = some o → G'.get? b = some o := fun b o q => (gk b (Nat.ne_of_lt (Nat.lt_of_lt_of_le (Heap.lt_size q) M.new))).trans (M.keep b o q)
    have ob : ObjOk X.prog X.w (upd H1 d (.xd [(fld, v)])) G' d (.xd [(fld, v)]) :=
      ⟨_, hns.at (fun o q => (gk d M.dne).trans q), fun f => relO_fld rv f⟩
    have J : Inv X pins σ (upd H1 d (.xd [(fld, v)])) ⟨G', g, dr, tk', os⟩ := I1.laid (t' := tk') old M.dbig ob
    refine ⟨e, _, _, ⟨G', g, dr, tk', os⟩, _, .ref C, some d, rfl, J, fun b o q => ?_, ge, hoe, ⟨rfl, rfl⟩, rfl, rfl, ?_, rfl, I1.bare, raises_own T.exC T.tyC, q1 d (I1.hok.fresh M.dbig)⟩
    · by_cases hb : b = e
      · have q' : G'.get? b = some o := q
        rw [hb, ge] at q'; cases q'
      · exact (gk b hb).symm.trans q
    · rw [upd_ne (Ne.symm M.dne)]
      exact I1.hok.fresh M.new
/-- raise X(e) -/
def tRaiseErr (fld : Str) (C : Addr) (W : WX) (ta : TA) : TS := fun _ σ H => tMkErr fld C ta σ H fun cls d H' => W cls d σ H'
theorem ps_raiseErr {a : Expr} {ta : TA} {W : WX} {p pos pos2 : Pos} {k : Nat} (hc : X.calm = true) (T : SupX.ErrTxt X.prog X.K X.mg nmE fld C fI) (hr : Room k X.A) (tk : Takes X W) (ha : PA X [a] ta) (hg : Gl X nmE := by rfl) (hdb : (nmE == ("__debug__" : Str)) = false := by decide)
    (he : starEach (a :: []) X.env = (false, eval a X.env) :: starEach [] X.env := by rfl) (hpl : (backTo pos (starEach [] X.env)).any (·.1) = false := by rfl) :
    PS X (.Raise (some (.Call (.Name nmE p) [a] [] pos)) none pos2) (tRaiseErr fld C W ta) := ps_raise hc tk (pmk_err T hr ha hg hdb he hpl)
/-- e.fld, e the exception that the suite holds (at a; its class cls, its dict d) -/
def tByErr (fld : Str) (C : Addr) (a : Addr) (cls : Value) (d : Option Addr) (te : TE) : TE := fun σ H Q => te σ H fun x H1 => x = .ref a ∧ cls = .ref C ∧ ∃ (dd : Addr) (v : V), d = some dd ∧ H1 dd = some (.xd [(fld, v)]) ∧ Q v H1
theorem pe_byErr {a : Addr} {oe : Obj} {cls : Value} {d : Option Addr} {pn : List (Addr × Obj)} {e : Expr} {te : TE} {pos : Pos} (T : SupX.ErrTxt X.prog X.K X.mg nmE fld C fI) (hz : Zc cls d oe) (hf : ∃ vs, oe.data = .fields vs) (he : PE (X.suite a ((a, oe) :: pn)) e te)
    (hb : attributeBase e fld X.env (eval e X.env) = eval e X.env := by rfl) :
    PE (X.suite a ((a, oe) :: pn)) (.Attribute e fld pos) (tByErr fld C a cls d te) := by
  refine ⟨fun pins s σ H Q I h => ?_⟩
  refine attr_of hb (thn (he.run pins s σ H _ I h) fun u s1 hh => ?_)
  obtain ⟨x, H1, I1, rx, ex, ec, dd, v, ed, ea, q⟩ := hh
  subst ex
  obtain rfl : u = Value.ref a := rx
  subst ec
  subst ed
  obtain ⟨ha, _⟩ := I1.pin (a, oe) (List.mem_append_left _ List.mem_cons_self)
  obtain ⟨vs, hd⟩ := hf
  have hx : ObjOk X.prog X.w H1 s1.heap dd (.xd [(fld, v)]) := I1.hok dd _ ea
  obtain ⟨mA, hns, hr⟩ := hx
  obtain ⟨od, ho, hl⟩ := lookIn_ns hns
  have l : List.lookup fld [(fld, v)] = some v := by simp [List.lookup]
  obtain ⟨u, hu, ru⟩ := RelO.some_of (v := v) (o := mA fld) (by rw [← l]; exact hr fld)
  have J : PySem.W.InstAt s1.heap a oe C (some od) := ⟨ha, hz.1, by unfold PySem.W.notCls; rw [hd] <;> rfl, by rw [hz.2]; exact ho⟩
  exact HandSPX.exc_get I1.kIn J T.ga T.gg T.exC (PySem.W.findObj_own T.hdC T.noN rfl (by rw [hl, hu])) (handed_of ru) ⟨v, H1, I1.tok _, ru, q⟩
end
end HX

set_option Elab.async false
set_option linter.all false
set_option maxRecDepth 100000
set_option maxHeartbeats 1000000
/-! data written out: what an expression of literals (and of names that hold data) makes; C: what is known of the slots, it stays when the heap grows -/
namespace HX
open PySem PySem.Spec PyProof.Rows L2
open Evl (Ex)
def Cl (C : L2.St → Hp → Prop) : Prop := ∀ σ H H', Ex H H' → C σ H → C σ H'
def C0 : L2.St → Hp → Prop := fun _ _ => True
theorem cl0 : Cl C0 := fun _ _ _ _ _ => trivial
def tDat (C : L2.St → Hp → Prop) (d : PyData) : TE := fun σ H Q => C σ H ∧ ∀ H' v, Ex H H' → Dq H' v d → Q v H'
def tDats (C : L2.St → Hp → Prop) (ds : List PyData) : TA := fun σ H Q => C σ H ∧ ∀ H' vs, Ex H H' → DqAll H' vs ds → Q vs H'
/-- a new list -/
def tDatL (C : L2.St → Hp → Prop) (ds : List PyData) : TE := fun σ H Q => C σ H ∧ ∀ H' l xs, Ex H H' → H' l = some (.lst xs) → DqAll H' xs ds → Q (.ref l) H'
section
variable {X : Cx} {C : L2.St → Hp → Prop} {e e2 : Expr} {es : List Expr} {te : TE} {ta : TA} {d : PyData} {ds ds2 : List PyData} {pos p : Pos} {i j : Int} {k n : Nat}
theorem pe_mono {te' : TE} (h : PE X e te) (m : ∀ σ H Q, te' σ H Q → te σ H Q) : PE X e te' := ⟨fun pins s σ H Q I q => h.run pins s σ H Q I (m σ H Q q)⟩
theorem pa_mono {ta' : TA} (h : PA X es ta) (m : ∀ σ H Q, ta' σ H Q → ta σ H Q) : PA X es ta' := ⟨fun pos pins s σ H Q I q => h.run pos pins s σ H Q I (m σ H Q q)⟩
theorem dat_int : PE X (.Constant (.int i) n pos) (tDat C (.int i)) := pe_mono pe_int fun σ H Q h => h.2 H _ (Ex.refl _) (.int i)
theorem dat_non : PE X (.Constant .none n pos) (tDat C .none) := pe_mono pe_non fun σ H Q h => h.2 H _ (Ex.refl _) .non
theorem dat_bl {b : Bool} : PE X (.Constant (.bool b) n pos) (tDat C (.bool b)) := pe_mono pe_bl fun σ H Q h => h.2 H _ (Ex.refl _) (.bl b)
theorem dat_str {x : Str} : PE X (.Constant (.str x) n pos) (tDat C (.str x)) := pe_mono pe_str fun σ H Q h => h.2 H _ (Ex.refl _) (.str x)
theorem dat_neg {m : Nat} {pos2 : Pos} : PE X (.UnaryOp .USub (.Constant (.int i) m pos2) pos) (tDat C (.int (-i))) := pe_mono (pe_un un_neg pe_int) fun σ H Q h => ⟨i, rfl, h.2 H _ (Ex.refl _) (.int (-i))⟩
theorem dat_pow {m n : Nat} {pos1 pos2 : Pos} (hc : CPowW i j) : PE X (.BinOp (.Constant (.int i) m pos1) .Pow (.Constant (.int j) n pos2) pos) (tDat C (.int (i ^ j.toNat))) :=
  pe_mono (pe_op op_powW pe_int pe_int) fun σ H Q h => ⟨i, j, rfl, rfl, hc, h.2 H _ (Ex.refl _) (.int _)⟩
theorem dat_sub0 {m n : Nat} {pos1 pos2 pos3 pos4 : Pos} {z : Int} {q : Nat} (hc : CPowW i j) : PE X (.BinOp (.Constant (.int z) q pos3) .Sub (.BinOp (.Constant (.int i) m pos1) .Pow (.Constant (.int j) n pos2) pos) pos4) (tDat C (.int (z - i ^ j.toNat))) :=
  pe_mono (pe_op op_sub pe_int (pe_op op_powW pe_int pe_int)) fun σ H Q h => ⟨i, j, rfl, rfl, hc, z, _, rfl, rfl, h.2 H _ (Ex.refl _) (.int _)⟩
theorem dat_dic : PE X (.Dict [] [] pos) (tDat C (.dict [])) := pe_mono pe_dnewK fun σ H Q h p hp => h.2 _ _ (Ex.new hp) (.dic upd_same)
theorem dat_nil : PA X [] (tDats C []) := pa_mono pa_nil fun σ H Q h => h.2 H [] (Ex.refl _) .nil
theorem dat_cons (hC : Cl C) (he : PE X e (tDat C d)) (hr : PA X es (tDats C ds)) (hs : starEach (e :: es) X.env = (false, eval e X.env) :: starEach es X.env := by rfl) : PA X (e :: es) (tDats C (d :: ds)) :=
  pa_mono (pa_cons he hr hs) fun σ H Q h => ⟨h.1, fun H1 v e1 q1 => ⟨hC σ _ _ e1 h.1, fun H2 vs e2 q2 => h.2 H2 _ (e1.trans e2) (.cons (q1.ex e2) q2)⟩⟩
theorem len_line (h : n ≤ 1000) : n ≤ sizeLine := Nat.le_trans h (by rw [sizeLine_eq]; decide)
theorem dat_tup {x1 : Nat} (h : PA X es (tDats C ds)) (hz : ds.length ≤ sizeLine) : PE X (.Tuple es x1 pos) (tDat C (.tuple ds)) :=
  pe_mono (pe_tup h) fun σ H Q q => ⟨q.1, fun H1 vs e1 q1 => ⟨by rw [q1.len]; exact hz, fun p hp => q.2 _ _ (e1.trans (Ex.new hp)) (.tup (.inl upd_same) (q1.ex (Ex.new hp)))⟩⟩
theorem lst_lit (h : PA X es (tDats C ds)) (hz : ds.length ≤ sizeLine) : PE X (.List es pos) (tDatL C ds) :=
  pe_mono (pe_lst h) fun σ H Q q => ⟨q.1, fun H1 vs e1 q1 => ⟨by rw [q1.len]; exact hz, fun p hp => q.2 _ _ _ (e1.trans (Ex.new hp)) upd_same (q1.ex (Ex.new hp))⟩⟩
theorem dat_lst (h : PE X e (tDatL C ds)) : PE X e (tDat C (.list ds)) := pe_mono h fun σ H Q q => ⟨q.1, fun H1 l xs e1 q1 q2 => q.2 _ _ e1 (.lst (.inl q1) q2)⟩
theorem lst_cat (hC : Cl C) (ha : PE X e (tDatL C ds)) (hb : PE X e2 (tDatL C ds2)) (hz : ds.length + ds2.length ≤ sizeLine) : PE X (.BinOp e .Add e2 pos) (tDatL C (ds ++ ds2)) :=
  pe_mono (pe_op op_cat ha hb) fun σ H Q q => ⟨q.1, fun H1 l xs e1 q1 q2 => ⟨hC σ _ _ e1 q.1, fun H2 m ys e2 q3 q4 => ⟨l, m, xs, ys, rfl, rfl, e2 _ _ q1, q3, by rw [q2.len, q4.len]; exact hz,
    fun p hp => q.2 _ _ _ ((e1.trans e2).trans (Ex.new hp)) upd_same (((q2.ex e2).app q4).ex (Ex.new hp))⟩⟩⟩
theorem dqa_rep {H : Hp} {xs : List V} (h : DqAll H xs ds) : ∀ k : Nat, DqAll H (List.replicate k xs).flatten (List.replicate k ds).flatten
  | 0 => .nil
  | k + 1 => by
    rw [List.replicate_succ, List.replicate_succ, List.flatten_cons, List.flatten_cons]
    exact h.app (dqa_rep h k)
theorem lst_rep {m : Nat} {pos2 : Pos} (hi : i = (k : Int)) (ha : PE X e (tDatL C ds)) (hk : k < 1000) (hz : ds.length * k ≤ sizeLine) : PE X (.BinOp e .Mult (.Constant (.int i) m pos2) pos) (tDatL C (List.replicate k ds).flatten) :=
  pe_mono (pe_op op_rep ha pe_int) fun σ H Q q => ⟨q.1, fun H1 l xs e1 q1 q2 => by
    subst hi
    refine ⟨l, k, xs, rfl, rfl, q1, by omega, by omega, by rw [q2.len]; simpa using hz, fun p hp => q.2 _ _ _ (e1.trans (Ex.new hp)) upd_same ?_⟩
    have e : (k : Int).toNat = k := Int.toNat_natCast k
    rw [e]
    exact (dqa_rep q2 k).ex (Ex.new hp)⟩
def cutD (ds : List PyData) (lo hi : Option Int) : List PyData := (ds.drop (HT.sIx ds.length 0 lo)).take (HT.sIx ds.length ds.length hi - HT.sIx ds.length 0 lo)
theorem dqa_cut {H : Hp} {xs : List V} (h : DqAll H xs ds) (lo hi : Option Int) : DqAll H (cutV xs lo hi) (cutD ds lo hi) := by
  unfold cutV cutD
  rw [h.len]
  exact (h.drop _).take _
theorem cutD_len (lo hi : Option Int) : (cutD ds lo hi).length ≤ ds.length := by
  unfold cutD
  rw [List.length_take, List.length_drop]
  omega
/-- a name that holds data -/
theorem dat_var {k : Nat} (h : PE X e (tVar k)) (hv : ∀ σ H, C σ H → ∃ v, σ[k]? = some (some v) ∧ Dq H v d) : PE X e (tDat C d) := pe_mono h fun σ H Q q => by
  obtain ⟨v, h1, h2⟩ := hv σ H q.1
  exact ⟨v, h1, q.2 H v (Ex.refl _) h2⟩
section
variable {lo hi : Option Expr} {tl th : TO} {p2 : Pos} {xl xh : Option Int}
theorem lst_slice {te : TE} {K : PySem.W.Frag} (hK : X.K = K) (he : PE X e te) (hl : PO X lo tl) (hu : PO X hi th) (hv : ∀ σ H (Q : VK), C σ H → (∀ a xs, Rd H a (.lst xs) → DqAll H xs ds → Q (.ref a) H) → te σ H Q)
    (h1 : ∀ σ H (Q : Option Int → Hp → Prop), Q xl H → tl σ H Q) (h2 : ∀ σ H (Q : Option Int → Hp → Prop), Q xh H → th σ H Q) : PE X (.Subscript e (.Slice lo hi none p2) pos) (tDatL C (cutD ds xl xh)) :=
  pe_mono (pe_slice sl_list he hl hu) fun σ H Q q => hv σ H _ q.1 fun a xs ha hd => h1 _ _ _ (h2 _ _ _ ⟨a, xs, rfl, .inl ha, fun p hp => q.2 _ _ _ (Ex.new hp) upd_same ((dqa_cut hd xl xh).ex (Ex.new hp))⟩)
end
/-- tuple(a name that holds a list) -/
theorem dat_tupOf {te : TE} (hg : Gl X "tuple") (hm : X.mg "tuple" = none) (he : PE X e te) (hv : ∀ σ H (Q : VK), C σ H → (∀ a xs, Rd H a (.lst xs) → DqAll H xs ds → Q (.ref a) H) → te σ H Q)
    (hs : starEach (e :: []) X.env = (false, eval e X.env) :: starEach [] X.env := by rfl) : PE X (.Call (.Name "tuple" p) [e] [] pos) (tDat C (.tuple ds)) :=
  pe_mono (pe_callTy call_tuple_of hg hm boot_tuple (pa_cons he pa_nil hs) (he := hs)) fun σ H Q q => hv σ H _ q.1 fun a xs ha hd => ⟨a, xs, rfl, .inl ⟨.inl ha, fun l hl => q.2 _ _ (Ex.new hl) (.tup (.inl upd_same) (hd.ex (Ex.new hl)))⟩⟩
end
theorem go_dat {C : L2.St → Hp → Prop} {d : PyData} {σ : L2.St} {H : Hp} {Q : VK} (c : C σ H) (k : ∀ H' v, Ex H H' → Dq H' v d → Q v H') : tDat C d σ H Q := ⟨c, k⟩
theorem go_datL {C : L2.St → Hp → Prop} {ds : List PyData} {σ : L2.St} {H : Hp} {Q : VK} (c : C σ H) (k : ∀ H' l xs, Ex H H' → H' l = some (.lst xs) → DqAll H' xs ds → Q (.ref l) H') : tDatL C ds σ H Q := ⟨c, k⟩
end HX

set_option Elab.async false
set_option linter.all false
set_option maxRecDepth 100000
set_option maxHeartbeats 1000000
/-! data of which a property is known, away from the objects of S (lists that will grow) -/
namespace HX
open PySem PySem.Spec PyProof.Rows L2
open Evl (Ex)
theorem hid_nil (H : Hp) : hid [] H = H := by funext b; simp [hid]
def Th (S : List Addr) (H : Hp) : Prop := ∀ s ∈ S, H s ≠ none
theorem Th.ex {S : List Addr} {H H' : Hp} (t : Th S H) (e : Ex H H') : Th S H' := fun s hs z => by
  cases q : H s with
  | none => exact t s hs q
  | some o => rw [e _ _ q] at z; cases z
theorem Th.nin {S : List Addr} {H : Hp} {p : Addr} (t : Th S H) (h : H p = none) : p ∉ S := fun z => t p z h
theorem hex {S : List Addr} {H H' : Hp} (e : Ex H H') : Ex (hid S H) (hid S H') := Jx.of e
theorem hnew {S : List Addr} {H : Hp} {p : Addr} {o : HO} (t : Th S H) (h : H p = none) : hid S (upd H p o) p = some o := by rw [hid_ne (t.nin h)]; exact upd_same
def tEx (S : L2.St → List Addr) (C : L2.St → Hp → Prop) (R : PyData → Prop) : TE := fun σ H Q => C σ (hid (S σ) H) ∧ Th (S σ) H ∧ ∀ H' v d, Ex H H' → Dq (hid (S σ) H') v d → R d → Q v H'
def tExs (S : L2.St → List Addr) (C : L2.St → Hp → Prop) (R : PyData → Prop) (n : Nat) : TA := fun σ H Q => C σ (hid (S σ) H) ∧ Th (S σ) H ∧ ∀ H' vs ds, Ex H H' → DqAll (hid (S σ) H') vs ds → ds.length = n → (∀ d ∈ ds, R d) → Q vs H'
def tExL (S : L2.St → List Addr) (C : L2.St → Hp → Prop) (R : PyData → Prop) (n : Nat) : TE := fun σ H Q => C σ (hid (S σ) H) ∧ Th (S σ) H ∧ ∀ H' l xs ds, Ex H H' → H' l = some (.lst xs) → l ∉ S σ → DqAll (hid (S σ) H') xs ds → ds.length ≤ n → (∀ d ∈ ds, R d) → Q (.ref l) H'
section
variable {X : Cx} {S : L2.St → List Addr} {C : L2.St → Hp → Prop} {R R' : PyData → Prop} {e e2 : Expr} {es : List Expr} {te : TE} {ta : TA} {d : PyData} {pos p : Pos} {k n m w : Nat} {i : Int}
theorem ex_int (hR : R (.int i)) : PE X (.Constant (.int i) n pos) (tEx S C R) := pe_mono pe_int fun σ H Q q => q.2.2 H _ _ (Ex.refl _) (.int i) hR
theorem ex_non (hR : R .none) : PE X (.Constant .none n pos) (tEx S C R) := pe_mono pe_non fun σ H Q q => q.2.2 H _ _ (Ex.refl _) .non hR
theorem ex_var {k : Nat} (h : PE X e (tVar k)) (hv : ∀ σ H, C σ H → ∃ v d, σ[k]? = some (some v) ∧ Dq H v d ∧ R d) : PE X e (tEx S C R) := pe_mono h fun σ H Q q => by
  obtain ⟨v, d, h1, h2, h3⟩ := hv σ _ q.1
  exact ⟨v, h1, q.2.2 H v d (Ex.refl _) h2 h3⟩
theorem ex_weak (h : PE X e (tEx S C R)) (hR : ∀ d, R d → R' d) : PE X e (tEx S C R') := pe_mono h fun σ H Q q => ⟨q.1, q.2.1, fun H' v d e1 q1 q2 => q.2.2 H' v d e1 q1 (hR d q2)⟩
theorem exs_nil : PA X [] (tExs S C R 0) := pa_mono pa_nil fun σ H Q h => h.2.2 H [] [] (Ex.refl _) .nil rfl (fun _ h => nomatch h)
theorem exs_cons (hC : Cl C) (he : PE X e (tEx S C R)) (hr : PA X es (tExs S C R n)) (hs : starEach (e :: es) X.env = (false, eval e X.env) :: starEach es X.env := by rfl) : PA X (e :: es) (tExs S C R (n + 1)) :=
  pa_mono (pa_cons he hr hs) fun σ H Q h => ⟨h.1, h.2.1, fun H1 v d e1 q1 r1 => ⟨hC σ _ _ (hex e1) h.1, h.2.1.ex e1, fun H2 vs ds e2 q2 hl r2 => h.2.2 H2 _ (d :: ds) (e1.trans e2) (.cons (q1.ex (hex e2)) q2) (by rw [List.length_cons, hl]) fun x hx => by
    rcases List.mem_cons.mp hx with rfl | hx
    · exact r1
    · exact r2 x hx⟩⟩
theorem ex_tup {x1 : Nat} (h : PA X es (tExs S C (Fine w k) n)) (hz : n ≤ 1000) : PE X (.Tuple es x1 pos) (tEx S C (Fine (n * (w + 1)) (k + 1))) :=
  pe_mono (pe_tup h) fun σ H Q q => ⟨q.1, q.2.1, fun H1 vs ds e1 q1 hl r1 => ⟨by rw [q1.len, hl]; exact len_line hz, fun p hp => q.2.2 _ _ (.tuple ds) (e1.trans (Ex.new hp)) (.tup (.inl (hnew (q.2.1.ex e1) hp)) (q1.ex (hex (Ex.new hp)))) (by
    have := Fine.tuple r1
    rw [hl] at this
    exact this)⟩⟩
theorem exl_lit (h : PA X es (tExs S C R n)) (hz : n ≤ 1000) : PE X (.List es pos) (tExL S C R n) :=
  pe_mono (pe_lst h) fun σ H Q q => ⟨q.1, q.2.1, fun H1 vs ds e1 q1 hl r1 => ⟨by rw [q1.len, hl]; exact len_line hz, fun p hp => q.2.2 _ _ _ ds (e1.trans (Ex.new hp)) upd_same ((q.2.1.ex e1).nin hp) (q1.ex (hex (Ex.new hp))) (Nat.le_of_eq hl) r1⟩⟩
theorem ex_lst (h : PE X e (tExL S C (Fine w k) n)) : PE X e (tEx S C (Fine (n * (w + 1)) (k + 1))) :=
  pe_mono h fun σ H Q q => ⟨q.1, q.2.1, fun H1 l xs ds e1 q1 nl q2 hl r1 => q.2.2 _ _ (.list ds) e1 (.lst (.inl (by rw [hid_ne nl]; exact q1)) q2) ((Fine.list r1).mono (Nat.mul_le_mul_right _ hl) (Nat.le_refl _))⟩
theorem exl_cat (hC : Cl C) (ha : PE X e (tExL S C R m)) (hb : PE X e2 (tExL S C R n)) (hz : m + n ≤ 1000) : PE X (.BinOp e .Add e2 pos) (tExL S C R (m + n)) :=
  pe_mono (pe_op op_cat ha hb) fun σ H Q q => ⟨q.1, q.2.1, fun H1 l xs ds e1 q1 n1 q2 hl r1 => ⟨hC σ _ _ (hex e1) q.1, q.2.1.ex e1, fun H2 l2 ys ds2 e2 q3 n2 q4 hl2 r2 => ⟨l, l2, xs, ys, rfl, rfl, e2 _ _ q1, q3, by rw [q2.len, q4.len]; exact len_line (by omega),
    fun p hp => q.2.2 _ _ _ (ds ++ ds2) ((e1.trans e2).trans (Ex.new hp)) upd_same ((q.2.1.ex (e1.trans e2)).nin hp) (((q2.ex (hex e2)).app q4).ex (hex (Ex.new hp))) (by rw [List.length_append]; omega) fun x hx => by
      rcases List.mem_append.mp hx with hx | hx
      · exact r1 x hx
      · exact r2 x hx⟩⟩⟩
theorem cut_mem {ds : List PyData} {lo hi : Option Int} {d : PyData} (h : d ∈ cutD ds lo hi) : d ∈ ds := by
  unfold cutD at h
  exact List.mem_of_mem_drop (List.mem_of_mem_take h)
section
variable {lo hi : Option Expr} {tl th : TO} {p2 : Pos} {xl xh : Option Int}
theorem exl_slice {te : TE} {K : PySem.W.Frag} (hK : X.K = K) (he : PE X e te) (hl : PO X lo tl) (hu : PO X hi th)
    (hv : ∀ σ H (Q : VK), C σ (hid (S σ) H) → (∀ a xs ds, Rd H a (.lst xs) → DqAll (hid (S σ) H) xs ds → ds.length ≤ n → (∀ d ∈ ds, R d) → Q (.ref a) H) → te σ H Q)
    (h1 : ∀ σ H (Q : Option Int → Hp → Prop), Q xl H → tl σ H Q) (h2 : ∀ σ H (Q : Option Int → Hp → Prop), Q xh H → th σ H Q) : PE X (.Subscript e (.Slice lo hi none p2) pos) (tExL S C R n) :=
  pe_mono (pe_slice sl_list he hl hu) fun σ H Q q => hv σ H _ q.1 fun a xs ds ha hd hn hr => h1 _ _ _ (h2 _ _ _ ⟨a, xs, rfl, .inl ha, fun p hp => q.2.2 _ _ _ (cutD ds xl xh) (Ex.new hp) upd_same (q.2.1.nin hp) ((dqa_cut hd xl xh).ex (hex (Ex.new hp))) (Nat.le_trans (cutD_len _ _) hn) fun d hd => hr d (cut_mem hd)⟩)
end
end
theorem go_exL {S : L2.St → List Addr} {C : L2.St → Hp → Prop} {R : PyData → Prop} {n : Nat} {σ : L2.St} {H : Hp} {Q : VK} (c : C σ (hid (S σ) H)) (t : Th (S σ) H) (k : ∀ H' l xs ds, Ex H H' → H' l = some (.lst xs) → l ∉ S σ → DqAll (hid (S σ) H') xs ds → ds.length ≤ n → (∀ d ∈ ds, R d) → Q (.ref l) H') : tExL S C R n σ H Q := ⟨c, t, k⟩
theorem go_ex {S : L2.St → List Addr} {C : L2.St → Hp → Prop} {R : PyData → Prop} {σ : L2.St} {H : Hp} {Q : VK} (c : C σ (hid (S σ) H)) (t : Th (S σ) H) (k : ∀ H' v d, Ex H H' → Dq (hid (S σ) H') v d → R d → Q v H') : tEx S C R σ H Q := ⟨c, t, k⟩
end HX

set_option Elab.async false
set_option linter.all false
set_option maxRecDepth 100000
set_option maxHeartbeats 2000000
/-! several except clauses, each with the same name (as e) -/
namespace HX
open PySem PySem.Spec PyProof.Rows L2
/-- behind a suite the name's slot is empty -/
def Ends.clr (i : Nat) (D : Ends) : Ends := { nx := fun τ G => D.nx (τ.set i none) G, rt := D.rt, bk := fun τ G => D.bk (τ.set i none) G, ct := fun τ G => D.ct (τ.set i none) G }
def wAll (K : PySem.W.Frag) (i : Nat) (Wo : WX) (D : Ends) : List (Value × (Addr → Value → Option Addr → TS)) → WX
  | [] => Wo
  | (c, t) :: more => fun cl dd τ G => ∃ yes, PySem.W.exmOne K cl c = some yes ∧ (yes = true → ∀ x, G x = none → t x cl dd (Ends.clr i D) (τ.set i (some (.ref x))) G) ∧ (yes = false → wAll K i Wo D more cl dd τ G)
inductive Clauses (X : Cx) (n : Str) : List ExceptHandler → List (Value × (Addr → Value → Option Addr → TS)) → Prop
  | nil : Clauses X n [] []
  | cons {x : Str} {c : Value} {t : Addr → Value → Option Addr → TS} {b : Stmt} {bs : List Stmt} {p q : Pos} {hs : List ExceptHandler} {l : List (Value × (Addr → Value → Option Addr → TS))} (nm : Names X x c)
      (body : ∀ (x : Addr) (ob : Obj) (cl : Value) (dd : Option Addr) (pn : List (Addr × Obj)), Zc cl dd ob → (∃ vs, ob.data = .fields vs) → PSs (X.suite x ((x, ob) :: pn)) (b :: bs) (t x cl dd)) (more : Clauses X n hs l) :
      Clauses X n (.ExceptHandler (some (.Name x p)) (some n) (b :: bs) q :: hs) ((c, t) :: l)
section
variable {X : Cx} {n : Str} {i : Nat} {body : List Stmt} {h1 : ExceptHandler} {hs : List ExceptHandler} {l : List (Value × (Addr → Value → Option Addr → TS))} {pos : Pos} {tb : WX → TS} {Wo : WX}
theorem ps_try_all (st : X.stack = X.env :: X.outer) (fr : X.env.frame = some X.env.locals) (nd : X.N.Nodup) (at_ : X.N[i]? = some n) (lc : X.env.kindOf n = some .local) (out : Takes X Wo)
    (hb : ∀ (W : WX) (pn : List (Addr × Obj)) (xe : Value → Shared → Prop), Takes (X.tr pn xe) W → PassesOwn (model X.prog X.w) X.A X.env xe → PSs (X.tr pn xe) body (tb W)) (cs : Clauses X n (h1 :: hs) l) :
    PS X (.Try body (h1 :: hs) [] [] pos) (fun D σ H => tb (wAll X.K i Wo D l) D σ H) := by
  constructor
  intro pins s σ H D I want
  have okX := I.ok
  have frs1 : X.A.frames = some (X.env :: X.outer) := okX.frames.trans (by rw [st])
  refine wpAny_Try_except ?_
  let after : Value → Shared → Prop := fun u s1 => wpAny (model X.prog X.w) X.A (noteFrame u X.env) (fun _ s2 =>
    wpAny (model X.prog X.w) X.A (setFlight u none) (fun _ s3 => wpAny (model X.prog X.w) X.A (handleBy u X.env (h1 :: hs)) (SP X pins D) X.xe s3) X.xe s2) X.xe s1
  have caught : Takes (X.tr (X.pn ++ pins) after) (wAll X.K i Wo D l) := by
    rintro u s1 ⟨x, gr, s0, pins2, τ, G, cl, dd, rfl, I2, ng, us, sk, nx, eos, bare, want2⟩
    have I0 : Inv X pins τ G s0 := I2.ofTry okX
    rw [show (X.tr (X.pn ++ pins) after).stack = X.env :: X.outer from st] at sk
    show wpAny (model X.prog X.w) X.A (noteFrame (.ref x) X.env) _ _ _
    refine Sky.land Zc.steady frs1 fr sk fun g2 fly us2 => ?_
    have I3 : Inv X pins τ G { s1 with heap := g2 } := I0.landed ng fly.1 (us.trans us2) eos bare
    obtain ⟨ob, vs, gx, zx, dx⟩ := fly.there
    have apart : x ∉ frs (X.env :: X.outer) := by
      intro m
      obtain ⟨_, o2, e2, nf⟩ := fly.2.2.1.mem m
      rw [gx] at e2
      cases e2
      exact nf _ dx
    have xL : x ≠ X.env.locals := fun z => apart (List.mem_filterMap.mpr ⟨X.env, List.mem_cons_self, by rw [fr, z]⟩)
    have xF : x ∉ X.fs := by
      intro m
      obtain ⟨e2, m2, q2⟩ := List.mem_filterMap.mp m
      exact apart (List.mem_filterMap.mpr ⟨e2, List.mem_cons_of_mem _ m2, q2⟩)
    have inS := I3.suite gx dx nx xL xF
    have walkC : ∀ {hs2 : List ExceptHandler} {l2 : List (Value × (Addr → Value → Option Addr → TS))}, Clauses X n hs2 l2 → wAll X.K i Wo D l2 cl dd τ G →
        wpAny (model X.prog X.w) X.A (handleBy (.ref x) X.env hs2) (SP X pins D) X.xe { s1 with heap := g2 } := by
      intro hs2 l2 c2
      induction c2 with
      | nil =>
        intro w
        refine wpAny_handleBy_nil ?_
        obtain ⟨_, _, _, ob2, vs2, Tb, oTb, ts2, gx2, _, dx2, v1, _⟩ := id fly
        unfold PySem.passOn
        refine wpAny_bind (wpAny_field gx2 dx2 v1 ?_)
        have isnt : ¬ ((Value.ref Tb == Value.none) = true) := by simp
        rw [if_neg isnt]
        have leave : wpAny (model X.prog X.w) X.A (setFlight (.ref x) X.env.frame) (fun _ s4 => wpAny (model X.prog X.w) X.A (throw (.ref x) : Sem Flow) (SP X pins D) X.xe s4) X.xe { s1 with heap := g2 } := by
          rw [fr]
          refine HandSPX.setFlight_upZ fly fun g4 held us4 => ?_
          refine wpAny_throw (out _ _ ?_)
          refine ⟨x, gr, s0, pins, τ, G, cl, dd, rfl, I0, ng, (us.trans us2).trans us4, ?_, nx, eos, bare, w⟩
          rw [st]
          exact .inr (.inr held)
        first
          | exact wpAny_bind leave
          | exact wpAny_bind (wpAny_pure (wpAny_bind leave))
      | @cons xn c t b bs p q hs3 l3 nm suite more ih =>
        intro w
        obtain ⟨yes, match_, yesW, noW⟩ := w
        refine wpAny_handleBy_cons (codeAny_handlers_test ?_) (by intro z; cases z)
        have ty : PySem.W.Looks (model X.prog X.w) g2 (typeOf (.ref x)) cl := fun A Q E s4 k z => wpAny_typeOf_ref (k _ _ gx) (by rw [zx.1]; exact z)
        have looks := PySem.W.exm_one (M := model X.prog X.w) I3.kIn ty match_
        have nameOf : ∀ {Q : Value → Shared → Prop} {E : Value → Shared → Prop}, Q c { s1 with heap := g2 } → wpAny (model X.prog X.w) (X.A.mark (some (.ref x))) (eval (.Name xn p) X.env) Q E { s1 with heap := g2 } := by
          intro Q E z
          obtain ⟨gl, db, m | ⟨m, bt, nn⟩⟩ := nm
          · exact ld_glob (X := X.suite x ((x, ob) :: (X.pn ++ pins))) inS gl m z db
          · exact ld_blt (X := X.suite x ((x, ob) :: (X.pn ++ pins))) inS gl m bt z nn db
        refine nameOf (looks.here ?_)
        cases yes with
        | false =>
          show wpAny _ X.A (handleBy (.ref x) X.env hs3) _ _ _
          exact ih (noW rfl)
        | true =>
          refine codeAny_handlers_suite_as ?_
          refine HandSPX.lands_againZ fly fun g4 fly4 us4 => ?_
          have I4 : Inv X pins τ G { s1 with heap := g4 } := I0.landed ng fly4.1 ((us.trans us2).trans us4) eos bare
          obtain ⟨ob4, vs4, gx4, zx4, dx4⟩ := fly4.there
          have inS4 := I4.suite gx4 dx4 nx xL xF
          refine store_ok (X := X.suite x ((x, ob4) :: (X.pn ++ pins))) (v := .ref x) inS4 nd at_ (.inl lc) rfl (fun s5 inS5 => ?_) (.inr lc)
          refine wpAny_mono ((suite x ob4 cl dd (X.pn ++ pins) zx4 ⟨_, dx4⟩).run [] s5 _ G _ inS5 (yesW rfl x nx)) (fun fl s6 got => ?_) (fun _ _ z => False.elim z)
          have gone : ∀ {τ6 : L2.St} {G6 : Hp} {Q : Shared → Prop}, Inv (X.suite x ((x, ob4) :: (X.pn ++ pins))) [] τ6 G6 s6 → (∀ s7, Inv X pins (τ6.set i none) G6 s7 → Q s7) →
              wpAny (model X.prog X.w) X.A (do bindName X.env n .none; unbindBehindTheSuite X.env n q) (fun _ s7 => Q s7) X.xe s6 := by
            intro τ6 G6 Q in6 z
            exact gone_ok (in6.unsuite okX) nd at_ lc z
          cases fl with
          | ret u =>
            obtain ⟨v6, τ6, G6, in6, r6, z⟩ := got
            exact gone in6 fun s7 I7 => ⟨_, _, _, I7, r6, z⟩
          | next =>
            obtain ⟨τ6, G6, in6, z⟩ := got
            exact gone in6 fun s7 I7 => ⟨_, _, I7, z⟩
          | brk =>
            obtain ⟨τ6, G6, in6, z⟩ := got
            exact gone in6 fun s7 I7 => ⟨_, _, I7, z⟩
          | cont =>
            obtain ⟨τ6, G6, in6, z⟩ := got
            exact gone in6 fun s7 I7 => ⟨_, _, I7, z⟩
    exact walkC cs want2
  refine wpAny_mono ((hb (wAll X.K i Wo D l) (X.pn ++ pins) after caught PassesOwn.looking).run [] s σ H D (I.toTry _) want) (fun fl s1 got => ?_) (fun _ _ z => z)
  cases fl with
  | ret u =>
    obtain ⟨v, τ, G, I2, r2, z⟩ := got
    exact ⟨v, τ, G, I2.ofTry okX, r2, z⟩
  | next =>
    obtain ⟨τ, G, I2, z⟩ := got
    exact wpAny_execs_nil ⟨τ, G, I2.ofTry okX, z⟩
  | brk =>
    obtain ⟨τ, G, I2, z⟩ := got
    exact ⟨τ, G, I2.ofTry okX, z⟩
  | cont =>
    obtain ⟨τ, G, I2, z⟩ := got
    exact ⟨τ, G, I2.ofTry okX, z⟩
end
/-! ### isinstance of the error that a suite holds, with a dict or without -/
def rIsH (K : PySem.W.Frag) (a : Addr) (cls : Value) (d : Option Addr) : List V → Hp → VK → Prop := fun xs H Q => ∃ (C : Addr) (c : V) (cv : Value) (b : Bool), xs = [.ref a, c] ∧ ClsV c cv ∧ cls = .ref C ∧ ExcC K C ∧
  (∀ dx, d = some dx → ∃ fs, H dx = some (.xd fs)) ∧ PySem.W.kitOne K (.ref C) cv = some b ∧ Q (.bl b) H
theorem call_isH {X : Cx} {a : Addr} {cls : Value} {d : Option Addr} {oe : Obj} {pn : List (Addr × Obj)} (hz : Zc cls d oe) (hf : ∃ vs, oe.data = .fields vs) : CallR (X.suite a ((a, oe) :: pn)) (.builtin "isinstance") (rIsH X.K a cls d) := by
  intro pins s σ H xs us Q I r h
  obtain ⟨C, c, cv, b, rfl, k, rfl, T, hd, e, q⟩ := h
  obtain ⟨u1, u2, rfl, r1, r2⟩ := vals2 r
  have e2 := k.eq r2
  subst e2
  cases (show u1 = Value.ref a from r1)
  obtain ⟨ha, _⟩ := I.pin (a, oe) (List.mem_append_left _ List.mem_cons_self)
  obtain ⟨vs, hv⟩ := hf
  have nocls : PySem.W.notCls oe = true := by unfold PySem.W.notCls; rw [hv] <;> rfl
  obtain ⟨od, J⟩ : ∃ od, PySem.W.InstAt s.heap a oe C od := by
    cases d with
    | none => exact ⟨none, ha, hz.1, nocls, by rw [hz.2]; trivial⟩
    | some dx =>
      obtain ⟨fs, hx⟩ := hd dx rfl
      obtain ⟨mA, hns, _⟩ := (show ObjOk X.prog X.w H s.heap dx (.xd fs) from I.hok dx _ hx)
      obtain ⟨od, hod, _⟩ := lookIn_ns hns
      exact ⟨some od, ha, hz.1, nocls, by rw [hz.2]; exact hod⟩
  have hcl : (PySem.W.clsIn X.K C).isSome = true := by
    obtain ⟨cd, hc, _⟩ := PySem.W.any_some T.hd
    rw [hc]
    rfl
  exact PySem.W.kia_one (PySem.W.kitx_exc hcl T.hg T.hk T.hs T.ha T.hn T.ht T.hm) I.kIn J e (fun z => nomatch z) fun tk => ⟨.bl b, H, I.tok tk, rfl, q⟩
end HX

set_option Elab.async false
set_option linter.all false
set_option maxRecDepth 100000
set_option maxHeartbeats 2000000
/-! errors whose context is None (HandS.ExcCtx), and unpacking within an except suite -/
namespace HX
open PySem PySem.Spec PyProof.Rows L2
theorem takes0N {X : Cx} : L2N.Takes X (fun _ _ _ _ => False) := fun _ _ x => by
  obtain ⟨_, _, _, _, _, _, _, _, _, _, _, _, _, _, _, _, z⟩ := x
  exact z.elim
section
variable {P : Program} {w : World} {K : PySem.W.Frag} {mg : Str → Option Value} {base : Heap}
theorem okXN {x qual : Str} {st : Stmt} {f : Addr} {fd : FuncData} {N ps : List Str} {k : Nat} {sp : Sp} (F : Fun K x qual st f fd) (S : FnScope N ps (defScope st)) (len : ∀ vs H Q E, sp vs H Q E → vs.length = ps.length)
    (hbody : ∀ (cdv : Value) (A : Around) (outer : List Env) (s : Shared) (H : Hp) (vs : List V) (Q : VK) (E : XK), Room k (A.deeper (envOfC qual (defScope st) s.heap.objs.size f cdv)) → sp vs H Q E →
      ∃ t, PSs (cxOf (L2N.CX P w) P w K mg base N qual (defScope st) f cdv A outer s H E) (defBody st) t ∧ t { nx := fun _ H' => Q .non H', rt := Q } (start N vs) H) : FnOk P w K mg base (L2N.CX P w) (k + 1) f fd ps sp := by
  obtain ⟨oc, od, kV, doc, pm, an, cdv, ct, osl, rfl, lk, hcd⟩ := F.ex
  exact fn_of lk hcd S len fun A outer s H vs Q E hr hsp => hbody cdv A outer s H vs Q E hr hsp
end
section
variable {X : Cx} {nmE fld : Str} {C fI : Addr}
theorem pmk_errN {a : Expr} {ta : TA} {p pos : Pos} {k : Nat} (T : SupX.ErrTxt X.prog X.K X.mg nmE fld C fI) (hr : Room k X.A) (ha : PA X [a] ta) (hg : Gl X nmE) (hdb : (nmE == ("__debug__" : Str)) = false)
    (he : starEach (a :: []) X.env = (false, eval a X.env) :: starEach [] X.env := by rfl) (hpl : (backTo pos (starEach [] X.env)).any (·.1) = false := by rfl) :
    L2N.PMk X (.Call (.Name nmE p) [a] [] pos) (tMkErr fld C ta) := by
  intro pins s σ H Q I h
  refine wpAny_Call_Name_kw (ld_glob I hg T.gC ?_ hdb)
  refine PySem.W.callWith_K (h₀ := X.base) I.ok.mod.kin T.kC (thn (ha.run pos pins s σ H _ I h) fun us s1 hh => ?_) he hpl
  obtain ⟨vs, H1, I1, r1, v, ev, q1⟩ := hh
  subst ev
  refine ⟨I1.kIn, ?_⟩
  cases r1 with
  | cons rv rn =>
    rename_i v' us'
    cases rn
    show wpAny _ _ (call (.ref C) [v']) _ _ _
    have G1 := gnd_of I1
    obtain ⟨hp, g, dr, tk, os⟩ := s1
    refine wpAny_call (SupX.sup_made T I1.kIn G1 (by have := hr.dp; omega) fun h' tk' e d M => ?_)
    show L2N.MkP X pins σ Q (.ref e) ⟨h', g, dr, tk', os⟩
    obtain ⟨t1, hoe⟩ := M.obj
    have hns := M.ns
    obtain ⟨G', g1, g2⟩ := restrict h' fun b => decide (b ≠ e)
    have gk : ∀ b, b ≠ e → G'.get? b = h'.get? b := fun b hb => g1 b (decide_eq_true hb)
    have ge : G'.get? e = none := g2 e (by simp)
    have old : ∀ b o, hp.get? b = some o → G'.get? b = some o := fun b o q => (gk b (Nat.ne_of_lt (Nat.lt_of_lt_of_le (Heap.lt_size q) M.new))).trans (M.keep b o q)
    have ob : ObjOk X.prog X.w (upd H1 d (.xd [(fld, v)])) G' d (.xd [(fld, v)]) :=
      ⟨_, hns.at (fun o q => (gk d M.dne).trans q), fun f => relO_fld rv f⟩
    have J : Inv X pins σ (upd H1 d (.xd [(fld, v)])) ⟨G', g, dr, tk', os⟩ := I1.laid (t' := tk') old M.dbig ob
    refine ⟨e, _, _, ⟨G', g, dr, tk', os⟩, _, .ref C, some d, rfl, J, fun b o q => ?_, ge, hoe, ⟨rfl, rfl, fun vs q => by cases q; rfl⟩, rfl, rfl, ?_, rfl, I1.bare, raises_own T.exC T.tyC, q1 d (I1.hok.fresh M.dbig)⟩
    · by_cases hb : b = e
      · have q' : G'.get? b = some o := q
        rw [hb, ge] at q'; cases q'
      · exact (gk b hb).symm.trans q
    · rw [upd_ne (Ne.symm M.dne)]
      exact I1.hok.fresh M.new
theorem ps_raiseErrN {a : Expr} {ta : TA} {W : WX} {p pos pos2 : Pos} {k : Nat} (hc : X.calm = true) (T : SupX.ErrTxt X.prog X.K X.mg nmE fld C fI) (hr : Room k X.A) (tk : L2N.Takes X W) (ha : PA X [a] ta) (hg : Gl X nmE := by rfl) (hdb : (nmE == ("__debug__" : Str)) = false := by decide)
    (he : starEach (a :: []) X.env = (false, eval a X.env) :: starEach [] X.env := by rfl) (hpl : (backTo pos (starEach [] X.env)).any (·.1) = false := by rfl) :
    PS X (.Raise (some (.Call (.Name nmE p) [a] [] pos)) none pos2) (tRaiseErr fld C W ta) 
  := L2N.ps_raise hc tk (pmk_errN T hr ha hg hdb he hpl)

end
section
variable {prog : Program} {w : World} {A : Around} {E : Value → Shared → Prop} {s : Shared}
open HotX
theorem tup_end_hot {it t x1 : Addr} {i : Nat} {items : Array Value} {Q : Option Value → Shared → Prop} (hot : HotAt A x1 s.heap) (ne : x1 ≠ it) (hit : IsTupIter s.heap it t i) (ht : IsTup s.heap t items) (hx : items[i]? = none)
    (hQ : ∀ h', Heap.ExtBut it s.heap h' → Q none { s with heap := h' }) : wpAny (model prog w) A (pyNext (.ref it)) Q E s := by
  obtain ⟨o, ho, hc, hd⟩ := id hit
  obtain ⟨ol, hol, _, nl, hdl⟩ := ht
  obtain ⟨hh, o1, vs1, h1, d1, c1⟩ := hot
  unfold pyNext
  refine wpAny_bind (wpAny_attempt (wpAny_callSpecial?_slot (name := Str.ofString "__next__") hit.typeIs slot_tupleiter_next
    (wpAny_call_entry slot_tupleiter_next hit.typeIs entry_tupleiter_next ?_ (args_tupleiter_next _))))
  show wpAny _ _ (field (.ref it) 0 >>= _) _ _ s
  refine wpAny_bind (wpAny_field ho hd (x := .ref t) rfl ?_)
  show wpAny _ _ (if (Value.ref t == Value.none) = true then _ else _) _ _ s
  rw [if_neg (show ¬ ((Value.ref t == Value.none) = true) from Bool.false_ne_true)]
  show wpAny _ _ (field (.ref it) 1 >>= _) _ _ s
  refine wpAny_bind (wpAny_field ho hd (x := .int i 0) rfl ?_)
  show wpAny _ _ (seqItems? (.ref t) >>= _) _ _ s
  refine wpAny_bind (wpAny_seqItems hol hdl ?_)
  simp only [Int.toNat_natCast, hx]
  refine wpAny_bind (wpAny_rule (wpAny_bind (wpAny_setField ho hd (by simp) ?_)))
  have g1 : ∀ f, (s.heap.update it f).get? x1 = some o1 := fun f => (Heap.get?_update_other _ _ (Ne.symm ne)).trans h1
  show wpAny _ _ (newExc (.type "StopIteration") [] >>= _) _ _ _
  refine wpAny_bind ?_
  simp only [newExc, newTuple]
  refine wpAny_bind (wpAny_newObj_type ?_ (by size_fits))
  refine wpAny_bind (m := firstArgMember _ _) (wpAny_of_eq (a := Value.none) (by first | rfl | (simp only [firstArgMember]; rfl)) ?_)
  refine wpAny_newObj_type ?_ (by size_fits)
  refine raiseNew_hot ⟨hh, o1, vs1, Heap.get?_push_of_some _ (Heap.get?_push_of_some _ (g1 _)), d1, c1⟩ (Nat.ne_of_lt (Heap.lt_size (Heap.get?_push_of_some _ (g1 _)))) (Heap.get?_push_size _ rfl) rfl (by first | (simp; done) | (simp; omega) | (simp only [Array.size_append]; simp; omega)) ?_
  refine wpAny_bind (wpAny_isInstance (T := "StopIteration") (b := true) ⟨_, Heap.get?_update_self _ (Heap.get?_push_size _ rfl) rfl, rfl⟩ isSubtype_stop ?_)
  refine wpAny_pure (hQ _ fun b ob nb e => ?_)
  have e1 : ∀ f, (s.heap.update it f).get? b = some ob := fun f => (Heap.get?_update_other _ _ (Ne.symm nb)).trans e
  rw [Heap.get?_update_other _ _ (Nat.ne_of_gt (Heap.lt_size (Heap.get?_push_of_some _ (e1 _))))]
  exact Heap.get?_push_of_some _ (Heap.get?_push_of_some _ (e1 _))
theorem unpack_hot {t x1 : Addr} {items : Array Value} {Q : List Value → Shared → Prop} (hot : HotAt A x1 s.heap) (ht : IsTup s.heap t items)
    (hQ : ∀ h', Heap.ExtBut s.heap.objs.size s.heap h' → Q items.toList { s with heap := h' }) : wpAny (model prog w) A (unpackItems (.ref t) items.size none) Q E s := by
  have hlt : t ≠ s.heap.objs.size := by obtain ⟨o, ho, _⟩ := ht; exact Nat.ne_of_lt (Heap.lt_size ho)
  obtain ⟨hh, o1, vs1, h1, d1, c1⟩ := hot
  have hx1 : x1 ≠ s.heap.objs.size := Nat.ne_of_lt (Heap.lt_size h1)
  unfold unpackItems
  refine wpAny_bind ?_
  unfold notIterableAtAll
  refine wpAny_bind (wpAny_specialOf ht.typeIs slot_tuple_iter.lookup (wpAny_pure ?_))
  simp only [Bool.false_eq_true, if_false]
  refine wpAny_bind (wpAny_holding (iter_tuple ht ?_))
  refine wpAny_bind (wpAny_holding (draw_tuple hlt items.size 0 _ _ ⟨_, Heap.get?_push_size _ rfl, rfl, rfl⟩ (ht.push _) (by omega) fun h₁ hit₁ hs₁ => ?_))
  have all : List.take items.size (List.drop 0 items.toList) = items.toList := by
    rw [List.drop_zero]
    exact List.take_of_length_le (by simp)
  rw [all, if_neg (by simp)]
  have ht₁ : IsTup h₁ t items := (ht.push _).extBut hs₁.extBut hlt
  refine wpAny_bind (wpAny_holding (tup_end_hot ⟨hh, o1, vs1, hs₁.extBut x1 o1 hx1 (Heap.get?_push_of_some _ h1), d1, c1⟩ hx1 hit₁ ht₁ (by simp) fun h₂ he₂ => ?_))
  simp only [Option.isSome_none, Bool.false_eq_true, if_false]
  exact wpAny_pure (hQ _ fun b o hb e => he₂ b o hb (hs₁.extBut b o hb (Heap.get?_push_of_some _ e)))
end
/-- a, b = x, y within an except suite -/
theorem ps_parH {X : Cx} {i j : Nat} {x y : Str} {a b : Expr} {ta : TA} {px py pt pos : Pos} {kt k2 pt2} (hot : L2H.HotC X) (hN : X.N.Nodup) (hi : X.N[i]? = some x) (hj : X.N[j]? = some y) (hij : i ≠ j)
    (hx : X.env.scope.names.lookup x = some .local) (hy : X.env.scope.names.lookup y = some .local) (ha : PA X [a, b] ta)
    (hw : swappedStores [.Tuple [.Name x px, .Name y py] kt pt] (.Tuple [a, b] k2 pt2) X.env = pure (some [x, y]))
    (hs : swapsWithSole [.Tuple [.Name x px, .Name y py] kt pt] (.Tuple [a, b] k2 pt2) pos.line X.env = pure false := by rfl) :
    PS X (.Assign [.Tuple [.Name x px, .Name y py] kt pt] (.Tuple [a, b] k2 pt2) pos) (tPar i j ta) := by
  refine ⟨fun pins s σ H D I h => ?_⟩
  rw [exec_Assign_arm]
  refine wpAny_bind (wpAny_standAt ?_)
  rw [hs]
  refine wpAny_bind (wpAny_pure ?_)
  rw [if_neg (by decide)]
  refine wpAny_bind (Tuple_ (thn (ha.run _ pins s σ H _ I h) fun us s1 ⟨vs, H1, I1, r1, q1⟩ => ?_))
  obtain ⟨v, w, rfl, q1⟩ := q1
  obtain ⟨u1, u2, rfl, rv, rw'⟩ := vals2 r1
  refine wpAny_newObj_type ?_ (by show 2 ≤ sizeLine; decide)
  have I2 : Inv X pins σ H1 { s1 with heap := s1.heap.push { cls := .type "tuple", data := .seq [u1, u2].toArray } } := I1.kept (t' := s1.toks) fun b o e => Heap.get?_push_of_some _ e
  rw [hw]
  refine wpAny_bind (wpAny_pure ?_)
  obtain ⟨x1, ht⟩ := hot.at I2
  show wpAny (model X.prog X.w) X.A (do rule "assign.swapped-stores"; let items ← unpackItems (.ref s1.heap.objs.size) 2 none; assignInOrder [fun v => bindName X.env y v, fun v => bindName X.env x v] items.reverse; pure Flow.next) _ _ _
  refine wpAny_bind (wpAny_rule (wpAny_bind (unpack_hot (items := #[u1, u2]) ht (IsTup.new s1.heap _) fun h' hx' => ?_)))
  have I3 := I2.kept (h' := h') (t' := s1.toks) fun b o e => hx' b o (Nat.ne_of_lt (Heap.lt_size e)) e
  show wpAny _ _ (assignInOrder [fun v => bindName X.env y v, fun v => bindName X.env x v] [u2, u1] >>= fun _ => pure Flow.next) _ _ _
  refine wpAny_bind (assignInOrder_cons (wpAny_bindName (store_ok I3 hN hj (.inl hy) rw' (fun s2 I4 => ?_) (.inr hy))))
  refine assignInOrder_cons (wpAny_bindName (store_ok I4 hN hi (.inl hx) rv (fun s3 I5 => assignInOrder_nil (wpAny_pure ?_)) (.inr hx)))
  rw [List.set_comm _ _ (Ne.symm hij)] at I5
  exact ⟨_, H1, I5, q1⟩
theorem hotC_of {X : Cx} {a : Addr} {oe : Obj} {cls : Value} {d : Option Addr} {pn : List (Addr × Obj)} (hz : L2N.Zn cls d oe) (hf : ∃ vs, oe.data = .fields vs) : L2H.HotC (X.suite a ((a, oe) :: pn)) :=
  let ⟨vs, h⟩ := hf; ⟨(a, oe), ⟨rfl, vs, h, hz.2.2 vs h⟩, List.mem_cons_self⟩
inductive ClausesN (X : Cx) (n : Str) : List ExceptHandler → List (Value × (Addr → Value → Option Addr → TS)) → Prop
  | nil : ClausesN X n [] []
  | cons {x : Str} {c : Value} {t : Addr → Value → Option Addr → TS} {b : Stmt} {bs : List Stmt} {p q : Pos} {hs : List ExceptHandler} {l : List (Value × (Addr → Value → Option Addr → TS))} (nm : Names X x c)
      (body : ∀ (x : Addr) (ob : Obj) (cl : Value) (dd : Option Addr) (pn : List (Addr × Obj)), L2N.Zn cl dd ob → (∃ vs, ob.data = .fields vs) → PSs (X.suite x ((x, ob) :: pn)) (b :: bs) (t x cl dd)) (more : ClausesN X n hs l) :
      ClausesN X n (.ExceptHandler (some (.Name x p)) (some n) (b :: bs) q :: hs) ((c, t) :: l)
section
variable {X : Cx} {n : Str} {i : Nat} {body : List Stmt} {h1 : ExceptHandler} {hs : List ExceptHandler} {l : List (Value × (Addr → Value → Option Addr → TS))} {pos : Pos} {tb : WX → TS} {Wo : WX}
theorem ps_try_allN (st : X.stack = X.env :: X.outer) (fr : X.env.frame = some X.env.locals) (nd : X.N.Nodup) (at_ : X.N[i]? = some n) (lc : X.env.kindOf n = some .local) (out : L2N.Takes X Wo)
    (hb : ∀ (W : WX) (pn : List (Addr × Obj)) (xe : Value → Shared → Prop), L2N.Takes (X.tr pn xe) W → PassesOwn (model X.prog X.w) X.A X.env xe → PSs (X.tr pn xe) body (tb W)) (cs : ClausesN X n (h1 :: hs) l) :
    PS X (.Try body (h1 :: hs) [] [] pos) (fun D σ H => tb (wAll X.K i Wo D l) D σ H) := by
  constructor
  intro pins s σ H D I want
  have okX := I.ok
  have frs1 : X.A.frames = some (X.env :: X.outer) := okX.frames.trans (by rw [st])
  refine wpAny_Try_except ?_
  let after : Value → Shared → Prop := fun u s1 => wpAny (model X.prog X.w) X.A (noteFrame u X.env) (fun _ s2 =>
    wpAny (model X.prog X.w) X.A (setFlight u none) (fun _ s3 => wpAny (model X.prog X.w) X.A (handleBy u X.env (h1 :: hs)) (SP X pins D) X.xe s3) X.xe s2) X.xe s1
  have caught : L2N.Takes (X.tr (X.pn ++ pins) after) (wAll X.K i Wo D l) := by
    rintro u s1 ⟨x, gr, s0, pins2, τ, G, cl, dd, rfl, I2, ng, us, sk, nx, eos, bare, want2⟩
    have I0 : Inv X pins τ G s0 := I2.ofTry okX
    rw [show (X.tr (X.pn ++ pins) after).stack = X.env :: X.outer from st] at sk
    show wpAny (model X.prog X.w) X.A (noteFrame (.ref x) X.env) _ _ _
    refine L2N.Sky.land L2N.Zn.steady frs1 fr sk fun g2 fly us2 => ?_
    have I3 : Inv X pins τ G { s1 with heap := g2 } := I0.landed ng fly.1 (us.trans us2) eos bare
    obtain ⟨ob, vs, gx, zx, dx⟩ := fly.there
    have apart : x ∉ frs (X.env :: X.outer) := by
      intro m
      obtain ⟨_, o2, e2, nf⟩ := fly.2.2.1.mem m
      rw [gx] at e2
      cases e2
      exact nf _ dx
    have xL : x ≠ X.env.locals := fun z => apart (List.mem_filterMap.mpr ⟨X.env, List.mem_cons_self, by rw [fr, z]⟩)
    have xF : x ∉ X.fs := by
      intro m
      obtain ⟨e2, m2, q2⟩ := List.mem_filterMap.mp m
      exact apart (List.mem_filterMap.mpr ⟨e2, List.mem_cons_of_mem _ m2, q2⟩)
    have inS := I3.suite gx dx nx xL xF
    have walkC : ∀ {hs2 : List ExceptHandler} {l2 : List (Value × (Addr → Value → Option Addr → TS))}, ClausesN X n hs2 l2 → wAll X.K i Wo D l2 cl dd τ G →
        wpAny (model X.prog X.w) X.A (handleBy (.ref x) X.env hs2) (SP X pins D) X.xe { s1 with heap := g2 } := by
      intro hs2 l2 c2
      induction c2 with
      | nil =>
        intro w
        refine wpAny_handleBy_nil ?_
        obtain ⟨_, _, _, ob2, vs2, Tb, oTb, ts2, gx2, _, dx2, v1, _⟩ := id fly
        unfold PySem.passOn
        refine wpAny_bind (wpAny_field gx2 dx2 v1 ?_)
        have isnt : ¬ ((Value.ref Tb == Value.none) = true) := by simp
        rw [if_neg isnt]
        have leave : wpAny (model X.prog X.w) X.A (setFlight (.ref x) X.env.frame) (fun _ s4 => wpAny (model X.prog X.w) X.A (throw (.ref x) : Sem Flow) (SP X pins D) X.xe s4) X.xe { s1 with heap := g2 } := by
          rw [fr]
          refine HandSPX.setFlight_upZ fly fun g4 held us4 => ?_
          refine wpAny_throw (out _ _ ?_)
          refine ⟨x, gr, s0, pins, τ, G, cl, dd, rfl, I0, ng, (us.trans us2).trans us4, ?_, nx, eos, bare, w⟩
          rw [st]
          exact .inr (.inr held)
        first
          | exact wpAny_bind leave
          | exact wpAny_bind (wpAny_pure (wpAny_bind leave))
      | @cons xn c t b bs p q hs3 l3 nm suite more ih =>
        intro w
        obtain ⟨yes, match_, yesW, noW⟩ := w
        refine wpAny_handleBy_cons (codeAny_handlers_test ?_) (by intro z; cases z)
        have ty : PySem.W.Looks (model X.prog X.w) g2 (typeOf (.ref x)) cl := fun A Q E s4 k z => wpAny_typeOf_ref (k _ _ gx) (by rw [zx.1]; exact z)
        have looks := PySem.W.exm_one (M := model X.prog X.w) I3.kIn ty match_
        have nameOf : ∀ {Q : Value → Shared → Prop} {E : Value → Shared → Prop}, Q c { s1 with heap := g2 } → wpAny (model X.prog X.w) (X.A.mark (some (.ref x))) (eval (.Name xn p) X.env) Q E { s1 with heap := g2 } := by
          intro Q E z
          obtain ⟨gl, db, m | ⟨m, bt, nn⟩⟩ := nm
          · exact ld_glob (X := X.suite x ((x, ob) :: (X.pn ++ pins))) inS gl m z db
          · exact ld_blt (X := X.suite x ((x, ob) :: (X.pn ++ pins))) inS gl m bt z nn db
        refine nameOf (looks.here ?_)
        cases yes with
        | false =>
          show wpAny _ X.A (handleBy (.ref x) X.env hs3) _ _ _
          exact ih (noW rfl)
        | true =>
          refine codeAny_handlers_suite_as ?_
          refine HandSPX.lands_againZ fly fun g4 fly4 us4 => ?_
          have I4 : Inv X pins τ G { s1 with heap := g4 } := I0.landed ng fly4.1 ((us.trans us2).trans us4) eos bare
          obtain ⟨ob4, vs4, gx4, zx4, dx4⟩ := fly4.there
          have inS4 := I4.suite gx4 dx4 nx xL xF
          refine store_ok (X := X.suite x ((x, ob4) :: (X.pn ++ pins))) (v := .ref x) inS4 nd at_ (.inl lc) rfl (fun s5 inS5 => ?_) (.inr lc)
          refine wpAny_mono ((suite x ob4 cl dd (X.pn ++ pins) zx4 ⟨_, dx4⟩).run [] s5 _ G _ inS5 (yesW rfl x nx)) (fun fl s6 got => ?_) (fun _ _ z => False.elim z)
          have gone : ∀ {τ6 : L2.St} {G6 : Hp} {Q : Shared → Prop}, Inv (X.suite x ((x, ob4) :: (X.pn ++ pins))) [] τ6 G6 s6 → (∀ s7, Inv X pins (τ6.set i none) G6 s7 → Q s7) →
              wpAny (model X.prog X.w) X.A (do bindName X.env n .none; unbindBehindTheSuite X.env n q) (fun _ s7 => Q s7) X.xe s6 := by
            intro τ6 G6 Q in6 z
            exact gone_ok (in6.unsuite okX) nd at_ lc z
          cases fl with
          | ret u =>
            obtain ⟨v6, τ6, G6, in6, r6, z⟩ := got
            exact gone in6 fun s7 I7 => ⟨_, _, _, I7, r6, z⟩
          | next =>
            obtain ⟨τ6, G6, in6, z⟩ := got
            exact gone in6 fun s7 I7 => ⟨_, _, I7, z⟩
          | brk =>
            obtain ⟨τ6, G6, in6, z⟩ := got
            exact gone in6 fun s7 I7 => ⟨_, _, I7, z⟩
          | cont =>
            obtain ⟨τ6, G6, in6, z⟩ := got
            exact gone in6 fun s7 I7 => ⟨_, _, I7, z⟩
    exact walkC cs want2
  refine wpAny_mono ((hb (wAll X.K i Wo D l) (X.pn ++ pins) after caught PassesOwn.looking).run [] s σ H D (I.toTry _) want) (fun fl s1 got => ?_) (fun _ _ z => z)
  cases fl with
  | ret u =>
    obtain ⟨v, τ, G, I2, r2, z⟩ := got
    exact ⟨v, τ, G, I2.ofTry okX, r2, z⟩
  | next =>
    obtain ⟨τ, G, I2, z⟩ := got
    exact wpAny_execs_nil ⟨τ, G, I2.ofTry okX, z⟩
  | brk =>
    obtain ⟨τ, G, I2, z⟩ := got
    exact ⟨τ, G, I2.ofTry okX, z⟩
  | cont =>
    obtain ⟨τ, G, I2, z⟩ := got
    exact ⟨τ, G, I2.ofTry okX, z⟩
end
end HX

set_option Elab.async false
set_option linter.all false
set_option maxRecDepth 100000
set_option maxHeartbeats 2000000
/-! a list that a callee can't see: what it promises of the heap without it, it promises of the heap with it -/
namespace HX
open PySem PySem.Spec PyProof.Rows L2
def spFr (sp : Sp) : Sp := fun vs H Q E => ∃ (D : Addr) (xs : List V), H D = some (.lst xs) ∧ sp vs (hid [D] H) (fun v H' => H' D = none → Q v (upd H' D (.lst xs))) E
theorem hid_self {D : Addr} {H : Hp} : hid [D] H D = none := if_pos List.mem_cons_self
theorem has_fr {P : Program} {w : World} {K : PySem.W.Frag} {mg : Str → Option Value} {base : Heap} {k : Nat} {x : Str} {sp : Sp} (h : Has P w K mg base k x sp) : Has P w K mg base k x (spFr sp) := by
  obtain ⟨f, fd, ps, F, r1, r2, r3⟩ := h
  refine ⟨f, fd, ps, ⟨?_, ?_⟩, r1, r2, r3⟩
  · rintro vs H Q E ⟨D, xs, _, hsp⟩
    exact F.len _ _ _ _ hsp
  · rintro A outer s H args us vs Q E hr e0 hb r ⟨D, xs, hD, hsp⟩
    have ne : ∀ {b : Addr} {o : HO}, H b = some o → (∀ ys, o ≠ .lst ys) → b ∉ [D] := fun {b o} e n => nin1 fun z => by rw [z, hD] at e; cases e; exact n _ rfl
    have le : ∀ b, H b = none → hid [D] H b = none := fun b e => by
      by_cases hb : b ∈ [D]
      · exact if_pos hb
      · rw [hid_ne hb]; exact e
    have nfs : D ∉ frs outer := fun hm => by have z := e0.frf D hm; rw [hD] at z; cases z
    obtain ⟨zs, its, n, rv, oD⟩ := (show ObjOk P w H s.heap D (.lst xs) from e0.hok D _ hD)
    have e1 : Env0 P w K mg base A outer s (hid [D] H) := ⟨e0.frames, e0.mod, fun b o e => ⟨(e0.bs b o e).1, le b (e0.bs b o e).2⟩, e0.bsz, e0.funs, fun b hb => le b (e0.frf b hb), fun b o e => by
      obtain ⟨nb, e⟩ := hid_some e
      refine (e0.hok b o e).stay (fun _ _ _ q => q) (fun c q => ?_) fun c ys q => ?_
      · rw [hid_ne (ne q fun _ z => nomatch z)]; exact q
      · rw [hid_ne (ne q fun _ z => nomatch z)]; exact q, e0.bare⟩
    refine codeAny_mono (F.run A outer s _ args us vs _ E hr e1 hb r hsp) fun rs s' got => ?_
    match rs, got with
    | .error e, got => exact got
    | .ok (.ret u), got =>
      obtain ⟨v, H', os, ba, un, hok, rvu, q⟩ := got
      have fD : H' D = none := un.free D _ oD hid_self (by simp)
      have kD := un.keep D _ oD hid_self nfs (by simp)
      have up : ∀ {b : Addr} {o : HO}, H' b = some o → upd H' D (.lst xs) b = some o := fun {b o} e => by
        rw [upd_ne fun z => by rw [z, fD] at e; cases e]; exact e
      refine ⟨v, upd H' D (.lst xs), os, ba, ⟨fun b o e n hb hx => un.keep b o e (le b n) hb hx, fun b o e n hb hx => un.slot b o e (le b n) hb hx, fun b o e n hx => ?_, un.there, fun b ys e => ?_, fun b o u e => ?_, fun b ps e => ?_⟩, fun b o e => ?_, rvu, q fD⟩
      · rw [upd_ne fun z => by rw [z, hD] at n; cases n]
        exact un.free b o e (le b n) hx
      · exact up (un.tups b ys (by rw [hid_ne (ne e fun _ z => nomatch z)]; exact e))
      · exact up (un.frzs b o u (by rw [hid_ne (ne e fun _ z => nomatch z)]; exact e))
      · obtain ⟨more, q⟩ := un.tbls b ps (by rw [hid_ne (ne e fun _ z => nomatch z)]; exact e)
        exact ⟨more, up q⟩
      · by_cases hb : b = D
        · subst hb
          rw [upd_same] at e
          cases e
          exact ⟨zs, its, n, rv, kD⟩
        · rw [upd_ne hb] at e
          exact (hok b o e).stay (fun _ _ _ q => q) (fun c q => up q) fun c ys q => up q
end HX

set_option Elab.async false
set_option linter.all false
set_option maxRecDepth 100000
set_option maxHeartbeats 2000000

namespace Kx
open PySem PySem.Spec PyProof.Rows L2 HX
open Evl (Ex)
local macro_rules | `(tactic| walk_at "side") => `(tactic| first | assumption | ((try dsimp only); first | assumption | decide +kernel | omega | exact ⟨by decide, by decide⟩ | (left; decide) | (left; omega) | (refine Or.inl ⟨?_, ?_⟩ <;> omega) | (refine Or.inr ⟨?_, ?_⟩ <;> omega)))
local macro_rules | `(tactic| walk_at "heap") => `(tactic| first | assumption | exact upd_same | exact Or.inl (by assumption) | exact Or.inl upd_same)
local macro_rules | `(tactic| walk_at "item") => `(tactic| first | exact rfl | exact atI_nat (j := 0) rfl | exact atI_nat (j := 1) rfl | exact atI_nat (j := 2) rfl | assumption)
local macro_rules | `(tactic| walk_at "rd") => `(tactic| repeat (first
  | ((with_reducible refine' go_var ?hv ?_); (case hv => exact rfl))
  | with_reducible refine' go_c ?_
  | with_reducible refine' go_op ?_
  | with_reducible refine' go_seq ?_
  | with_reducible refine' go_asg ?_
  | with_reducible refine' go_name ?_
  | with_reducible refine' go_cons ?_
  | with_reducible refine' go_nil ?_
  | with_reducible refine' go_cb ?_
  | with_reducible refine' go_call ?_
  | with_reducible refine' go_ifS ?_
  | with_reducible refine' go_test ?_
  | with_reducible refine' go_bl ?_
  | with_reducible refine' go_ret ?_
  | with_reducible refine' go_I0 ?_
  | ((with_reducible refine' go_I ?cc ?_); (case cc => walk_at "side"))
  | ((with_reducible refine' go_ixL ?hh ?hk ?_); (case hh => walk_at "heap"); (case hk => walk_at "item"))
  | ((with_reducible refine' go_ixT ?hh ?hk ?_); (case hh => walk_at "heap"); (case hk => walk_at "item"))
  | ((with_reducible refine' go_lenL ?hh ?_); (case hh => walk_at "heap"))
  | ((with_reducible refine' go_lenT ?hh ?_); (case hh => walk_at "heap"))
  | ((with_reducible refine' go_setL ?hh ?hk ?_); (case hh => walk_at "heap"); (case hk => walk_at "item"))
  | with_reducible refine' go_abs ?_
  | with_reducible refine' go_max ?_
  | with_reducible refine' go_min ?_
  | with_reducible refine' go_int ?_
  | with_reducible refine' go_intB ?_
  | (with_reducible refine' go_eq rfl ?_)
  | (with_reducible refine' go_ne rfl ?_)
  | with_reducible refine' go_isN ?_
  | with_reducible refine' go_notN ?_
  | with_reducible refine' go_if ?_
  | with_reducible refine' go_sub ?_
  | with_reducible refine' go_par ?_
  | with_reducible refine' go_sl ?_
  | with_reducible refine' go_part ?_
  | with_reducible refine' go_pint ?_
  | with_reducible refine' go_nopart ?_
  | ((with_reducible refine' go_lenL ?hh ?_); (case hh => walk_at "heap"))
  | ((with_reducible refine' go_lenT ?hh ?_); (case hh => walk_at "heap"))
  | ((with_reducible refine' go_lenS ?hh ?_); (case hh => assumption))
  | with_reducible refine' go_gcons ?_
  | with_reducible refine' go_gnil ?_
  | with_reducible refine' go_kw ?_
  | with_reducible refine' go_par2 ?_
  | with_reducible refine' go_next ?_
  | with_reducible refine' go_drop ?_
  | with_reducible refine' go_and ?_
  | with_reducible refine' go_or ?_
  | with_reducible refine' go_not ?_
  | with_reducible refine' go_B ?_
  | with_reducible refine' go_andV ?_
  | with_reducible refine' go_orV ?_
  | with_reducible refine' go_notV ?_
  | with_reducible refine' go_chain ?_
  | with_reducible refine' go_un ?_
  | with_reducible refine' go_U ?_
  | with_reducible refine' go_bm ?_
  | with_reducible refine' go_tup ?_
  | with_reducible refine' go_lst ?_
  | with_reducible refine' go_forR1 ?_
  | with_reducible refine' go_forR2 ?_
  | with_reducible refine' go_forL ?_
  | with_reducible refine' go_forT ?_
  | with_reducible refine' go_forE ?_
  | with_reducible refine' go_lcR1 ?_
  | with_reducible refine' go_lcL ?_
  | with_reducible refine' go_lcT ?_
  | ((with_reducible refine' go_tyL ?hh ?_); (case hh => walk_at "heap"))
  | ((with_reducible refine' go_new ?hz ?_); (case hz => exact Nat.le_of_ble_eq_true rfl))
  | (with_reducible refine' ⟨_, rfl, ?_⟩)
  ))
--MACEND
/-! ### a def that may raise, called by its name -/
def HasX (P : Program) (w : World) (K : PySem.W.Frag) (mg : Str → Option Value) (base : Heap) (k : Nat) (x : Str) (sp : Sp) : Prop :=
  ∃ (f : Addr) (fd : FuncData) (ps : List Str), FnOk P w K mg base (L2N.CX P w) k f fd ps sp ∧ mg x = some (.ref f) ∧ PySem.W.keepIn K (.ref f) = true ∧ Binds K fd ps []
section
variable {X : Cx} {k n : Nat} {sp : Sp} {x : Str} {p pos : Pos} {e : Expr} {es : List Expr} {t : TA} {E : L2.St → XK}
theorem pe_hsS (h : HasX X.prog X.w X.K X.mg X.base k x sp) (hr : Room n X.A) (hg : Gl X x) (hx : ∀ σ, PassesAt (L2N.CX X.prog X.w) X σ (E σ)) (ha : PA X (e :: es) t) (hkn : k ≤ n := by decide) (hdb : (x == ("__debug__" : Str)) = false := by decide)
    (he : starEach (e :: es) X.env = (false, eval e X.env) :: starEach es X.env := by rfl) (hpl : (backTo pos (starEach es X.env)).any (·.1) = false := by rfl) :
    PE X (.Call (.Name x p) (e :: es) [] pos) (tCallS sp E t) := by
  obtain ⟨f, fd, ps, F, hm, hk, hb⟩ := h
  exact pe_callS F (hr.mono hkn) hg hm hk hb hx ha hdb he hpl
end
theorem go_callS {sp : Sp} {E : L2.St → XK} {t : TA} {σ : L2.St} {H : Hp} {Q : VK} (h : t σ H fun vs H1 => sp vs H1 Q (E σ)) : tCallS sp E t σ H Q := h
theorem go_raiseErr {fld : Str} {C : Addr} {W : WX} {ta : TA} {D : Ends} {σ : L2.St} {H : Hp} (h : ta σ H fun vs H1 => ∃ v, vs = [v] ∧ ∀ d, H1 d = none → W (.ref C) (some d) σ (upd H1 d (.xd [(fld, v)]))) : tRaiseErr fld C W ta D σ H := h
/-! ### what is wrong with a receiver -/
def isDialD : PyData → Bool
  | .tuple (.str k :: _) => decide (k = "dial")
  | _ => false
def fltS : List PyData → Nat → Bool → Option Nat
  | [], _, _ => none
  | s :: ss, i, has => if isStage s then (if isDialD s then (if has then some i else fltS ss (i + 1) true) else fltS ss (i + 1) has) else some i
def fault : PyData → Option (Option Nat)
  | .tuple [.list ss, r] => if isFrame (.tuple [.list ss, r]) then (match fltS ss 0 false with | some i => some (some i) | none => if isRate r then none else some (some ss.length)) else some none
  | _ => some none
def fltV : Option Nat → V
  | none => .non
  | some i => .int i
def spRecvE (C : Addr) : Sp := fun vs H Q E => ∃ x d, vs = [x] ∧ Dq H x d ∧ (fault d = none → ∀ H', Ex H H' → Q .non H') ∧ (∀ f, fault d = some f → ∀ H' dd, Ex H H' → H dd = none → H' dd = some (.xd [("index", fltV f)]) → E (.ref C) (some dd) H')
theorem frame_no {d : PyData} (h : isFrame d = false) : fault d = some none := by
  unfold fault
  split
  · rw [h]; rfl
  · rfl
theorem frame_yes {d : PyData} (h : isFrame d = true) : ∃ ss r, d = .tuple [.list ss, r] ∧ fault d = (match fltS ss 0 false with | some i => some (some i) | none => if isRate r then none else some (some ss.length)) := by
  unfold isFrame at h
  split at h
  · rename_i ss r
    refine ⟨ss, r, rfl, ?_⟩
    show (if isFrame (.tuple [.list ss, r]) = true then _ else _) = _
    rw [if_pos (show isFrame (.tuple [.list ss, r]) = true from h)]
  · cases h
/-- what has been seen behind i stages, all right -/
def seen : List PyData → Nat → Bool → Option Bool
  | _, 0, has => some has
  | [], _ + 1, has => some has
  | s :: ss, n + 1, has => if isStage s then (if isDialD s then (if has then none else seen ss n true) else seen ss n has) else none
theorem flt_seen : ∀ (ss : List PyData) (n j : Nat) (has h2 : Bool), seen ss n has = some h2 → n ≤ ss.length → fltS ss j has = fltS (ss.drop n) (j + n) h2
  | ss, 0, j, has, h2, h, _ => by
    cases ss <;> (simp [seen] at h; subst h; rfl)
  | [], n + 1, _, _, _, _, hn => by simp at hn
  | s :: ss, n + 1, j, has, h2, h, hn => by
    have hn' : n ≤ ss.length := by simpa using hn
    have e : j + (n + 1) = j + 1 + n := by omega
    rw [List.drop_succ_cons, e]
    unfold seen at h
    show (if isStage s = true then (if isDialD s = true then (if has = true then some j else fltS ss (j + 1) true) else fltS ss (j + 1) has) else some j) = _
    split at h
    · rename_i q
      rw [if_pos q]
      split at h
      · rename_i q2
        rw [if_pos q2]
        split at h
        · cases h
        · rename_i q3
          rw [if_neg q3]
          exact flt_seen ss n (j + 1) true h2 h hn'
      · rename_i q2
        rw [if_neg q2]
        exact flt_seen ss n (j + 1) has h2 h hn'
    · cases h
theorem seen_more : ∀ (ss : List PyData) (n : Nat) (has h2 : Bool) (s : PyData), seen ss n has = some h2 → ss[n]? = some s → isStage s = true → (isDialD s = true → h2 = false) → seen ss (n + 1) has = some (h2 || isDialD s)
  | [], n, _, _, _, _, h, _, _ => by simp at h
  | t :: ss, 0, has, h2, s, h, hs, h1, h3 => by
    cases h
    obtain rfl : t = s := by simpa using hs
    unfold seen
    rw [if_pos h1]
    cases q : isDialD t with
    | true =>
      rw [h3 q]
      simp [seen]
    | false => simp [seen]
  | t :: ss, n + 1, has, h2, s, h, hs, h1, h3 => by
    unfold seen at h ⊢
    have hs' : ss[n]? = some s := by simpa using hs
    split at h
    · rename_i q
      rw [if_pos q]
      split at h
      · rename_i q2
        rw [if_pos q2]
        split at h
        · cases h
        · rename_i q3
          rw [if_neg q3]
          exact seen_more ss n true h2 s h hs' h1 h3
      · rename_i q2
        rw [if_neg q2]
        exact seen_more ss n has h2 s h hs' h1 h3
    · cases h
theorem stage_nm {H : Hp} {x : V} {d : PyData} (h : Dq H x d) (hs : isStage d = true) : ∃ a xs k, x = .ref a ∧ Rd H a (.tup xs) ∧ atI xs 0 = some (.str k) ∧ isDialD d = decide (V.str k = V.str "dial") := by
  unfold isStage at hs
  split at hs
  · rename_i k d2 ds
    obtain ⟨a, xs, rfl, ha, hda⟩ := h.tupleAt
    cases hda with
    | cons q1 q2 =>
      cases q1
      exact ⟨a, _, k, rfl, ha, atI_nat (j := 0) rfl, by simp [isDialD]⟩
  · cases hs
section
variable {P : Program} {w : World} {K : PySem.W.Frag} {mg : Str → Option Value} {base : Heap} {C fI : Addr}
abbrev s_check_receiver : Stmt := top 19
theorem sc_check_receiver : FnScope ["receiver", "stages", "rate", "has_dial", "index", "stage"] ["receiver"] (defScope s_check_receiver) := ⟨rfl, rfl, rfl, by decide +kernel, rfl, by decide +kernel, by decide +kernel⟩
theorem ok_check_receiver {f : Addr} {fd : FuncData} (F : Fun K "check_receiver" "check_receiver" s_check_receiver f fd) (T_InvalidReceiver : SupX.ErrTxt P K mg "InvalidReceiver" "index" C fI) (m_enumerate : mg "enumerate" = none) (m_len : mg "len" = none) (h__is_frame : Has P w K mg base 1 "_is_frame" (spLook isFrame))
    (h_is_stage : Has P w K mg base 4 "is_stage" (spLook isStage)) (h_is_rate : Has P w K mg base 2 "is_rate" (spLook isRate)) : FnOk P w K mg base (L2N.CX P w) 5 f fd ["receiver"] (spRecvE C) := by
  refine okXN F sc_check_receiver (fun vs H Q E h => ?_) (fun cdv A outer s H vs Q E hr h => ?_)
  · obtain ⟨x, d, rfl, _⟩ := h
    rfl
  · obtain ⟨x, d, rfl, hd, k1, k2⟩ := h
    refine ⟨_, (pss_cons (ps_if (pt_not (pt_val (pe_hs h__is_frame hr rfl (pa_cons (pv 0) pa_nil))))
  (pss_one (ps_raiseErrN rfl T_InvalidReceiver hr (L2N.takes_of rfl rfl rfl rfl) (pa_cons pe_non pa_nil)))
  pss_nil)
  (pss_cons (ps_asg (pv 0) (pg_tup (by rfl) (pgs_cons (pg_name (i := 1) sc_check_receiver.nd rfl (Or.inl rfl)) (pgs_cons (pg_name (i := 2) sc_check_receiver.nd rfl (Or.inl rfl)) pgs_nil))))
  (pss_cons (ps_set (i := 3) sc_check_receiver.nd rfl (Or.inl rfl) pe_bl)
  (pss_cons (ps_for (passes_of rfl) rfl (pi_enum (by rfl) m_enumerate (pa_cons (pv 1) pa_nil)) (pg_tup (by rfl) (pgs_cons (pg_name (i := 4) sc_check_receiver.nd rfl (Or.inl rfl)) (pgs_cons (pg_name (i := 5) sc_check_receiver.nd rfl (Or.inl rfl)) pgs_nil)))
  (pss_cons (ps_if (pt_not (pt_val (pe_hs h_is_stage hr rfl (pa_cons (pv 5) pa_nil))))
  (pss_one (ps_raiseErrN rfl T_InvalidReceiver hr (L2N.takes_of rfl rfl rfl rfl) (pa_cons (pv 4) pa_nil)))
  pss_nil)
  (pss_one (ps_if (pt_cmpR op_eq (pe_ix ix_tup (pv 5) pe_int (fun _ _ => rfl)) pe_str (nomark _))
  (pss_cons (ps_if (pt_val (pv 3))
  (pss_one (ps_raiseErrN rfl T_InvalidReceiver hr (L2N.takes_of rfl rfl rfl rfl) (pa_cons (pv 4) pa_nil)))
  pss_nil)
  (pss_one (ps_set (i := 3) sc_check_receiver.nd rfl (Or.inl rfl) pe_bl)))
  pss_nil))))
  (pss_one (ps_if (pt_not (pt_val (pe_hs h_is_rate hr rfl (pa_cons (pv 2) pa_nil))))
  (pss_one (ps_raiseErrN rfl T_InvalidReceiver hr (L2N.takes_of rfl rfl rfl rfl) (pa_cons (pe_callB call_lenQ rfl m_len PySem.boot_len (pa_cons (pv 1) pa_nil)) pa_nil)))
  pss_nil)))))), ?_⟩
    walk_at "rd"
    refine look_go hd fun H1 e1 => ?_
    walk_at "rd"
    cases hf : isFrame d with
    | false =>
      refine iteT ?_
      refine ⟨_, rfl, fun dd nd => ?_⟩
      have fr : H dd = none := by
        cases z : H dd with
        | none => rfl
        | some o => rw [e1 _ _ z] at nd; cases nd
      exact k2 none (frame_no hf) _ dd (e1.trans (Ex.new nd)) fr upd_same
    | true =>
      refine iteF ?_
      walk_at "rd"
      obtain ⟨ss, r, rfl, hfl⟩ := frame_yes hf
      obtain ⟨a, xs, rfl, ha, hda⟩ := (hd.ex e1).tupleAt
      obtain ⟨v1, v2, d1, d2, rfl, ed, hv1, hv2⟩ := dqa2 hda rfl
      obtain ⟨rfl, rfl⟩ : PyData.list ss = d1 ∧ r = d2 := by simpa using ed
      obtain ⟨l, ys, rfl, hl, hys⟩ := hv1.listAt
      refine go_gtup (.inl ha) rfl ?_
      walk_at "rd"
      have len8 : ss.length ≤ 8 := by
        simp [isFrame] at hf
        exact hf.2
      have fresh : ∀ {G : Hp} {dd : Addr}, Ex H G → G dd = none → H dd = none := fun {G dd} e n => by
        cases z : H dd with
        | none => rfl
        | some o => rw [e _ _ z] at n; cases n
      refine ⟨l, ys, rfl, .inl hl, ?_⟩
      refine run_forE ys (fun i σ G => ∃ (v4 v5 : Option V) (has : Bool), σ = [some (.ref a), some (.ref l), some v2, some (.bl has), v4, v5] ∧ Ex H1 G ∧ seen ss i false = some has) ?_ ?_ ?_ ?_
      · exact ⟨_, _, false, rfl, Ex.refl _, by cases ss <;> rfl⟩
      · rintro i σ G _ ⟨v4, v5, has, rfl, e, _⟩
        exact .inl (Evl.ex_rd e hl)
      · rintro i y σ G Tp hi ⟨v4, v5, has, rfl, e, hseen⟩ hT
        obtain ⟨sd, hs, hds⟩ := hys.get hi
        have hlt : i < ss.length := (List.getElem?_eq_some_iff.mp hs).1
        have hdrop : ss.drop i = sd :: ss.drop (i + 1) := by
          rw [List.drop_eq_getElem_cons hlt, (List.getElem?_eq_some_iff.mp hs).2]
        have hfs := flt_seen ss i 0 false has hseen (Nat.le_of_lt hlt)
        rw [hdrop, Nat.zero_add] at hfs
        have e2 := e.trans (Ex.new (o := HO.tup [.int (i : Nat), y]) hT)
        refine go_gtup (.inl (.inl upd_same)) rfl ?_
        walk_at "rd"
        refine look_go (hds.ex e2) fun H2 e3 => ?_
        walk_at "rd"
        have e4 := (e1.trans e2).trans e3
        cases hst : isStage sd with
        | false =>
          refine iteT ?_
          refine ⟨_, rfl, _, rfl, fun dd nd => ?_⟩
          refine k2 (some i) ?_ _ dd (e4.trans (Ex.new nd)) (fresh e4 nd) upd_same
          rw [hfl, hfs]
          simp [fltS, hst]
        | true =>
          refine iteF ?_
          obtain ⟨b2, zs, kn, rfl, hb, hz, hdl⟩ := stage_nm (hds.ex (e2.trans e3)) hst
          walk_at "rd"
          rw [← hdl]
          cases hdd : isDialD sd with
          | true =>
            refine iteT ?_
            walk_at "rd"
            cases has with
            | true =>
              refine iteT ?_
              refine ⟨_, rfl, _, rfl, fun dd nd => ?_⟩
              refine k2 (some i) ?_ _ dd (e4.trans (Ex.new nd)) (fresh e4 nd) upd_same
              rw [hfl, hfs]
              simp [fltS, hst, hdd]
            | false =>
              refine iteF ?_
              walk_at "rd"
              refine ⟨_, _, true, rfl, e2.trans e3, ?_⟩
              have := seen_more ss i false false sd hseen hs hst fun _ => rfl
              rw [hdd] at this
              exact this
          | false =>
            refine iteF ?_
            walk_at "rd"
            refine ⟨_, _, has, rfl, e2.trans e3, ?_⟩
            have := seen_more ss i false has sd hseen hs hst fun z => by rw [hdd] at z; cases z
            rw [hdd] at this
            simpa using this
      · rintro σ G ⟨v4, v5, has, rfl, e, hseen⟩
        have hlen : ys.length = ss.length := hys.len
        rw [hlen] at hseen
        have hfs := flt_seen ss ss.length 0 false has hseen (Nat.le_refl _)
        rw [List.drop_length] at hfs
        have hno : fltS ss 0 false = none := by rw [hfs]; rfl
        rw [hno] at hfl
        walk_at "rd"
        refine look_go (hv2.ex e) fun H2 e2 => ?_
        walk_at "rd"
        have e4 := (e1.trans e).trans e2
        cases hrt : isRate r with
        | true =>
          refine iteF ?_
          walk_at "rd"
          exact k1 (by rw [hfl, hrt]; rfl) _ e4
        | false =>
          refine iteT ?_
          have hl2 := Evl.ex_rd (e.trans e2) hl
          refine go_raiseErr ?_
          walk_at "rd"
          intro dd nd
          refine k2 (some ss.length) ?_ _ dd (e4.trans (Ex.new nd)) (fresh e4 nd) ?_
          · rw [hfl, hrt]; rfl
          · rw [← hlen]; exact upd_same
end
end Kx

set_option Elab.async false
set_option linter.all false
set_option maxRecDepth 100000
set_option maxHeartbeats 2000000

namespace Kx
open PySem PySem.Spec PyProof.Rows L2 HX
open Evl (Ex)
local macro_rules | `(tactic| walk_at "side") => `(tactic| first | assumption | ((try dsimp only); first | assumption | decide +kernel | omega | exact ⟨by decide, by decide⟩ | (left; decide) | (left; omega) | (refine Or.inl ⟨?_, ?_⟩ <;> omega) | (refine Or.inr ⟨?_, ?_⟩ <;> omega)))
local macro_rules | `(tactic| walk_at "heap") => `(tactic| first | assumption | exact upd_same | exact Or.inl (by assumption) | exact Or.inl upd_same)
local macro_rules | `(tactic| walk_at "item") => `(tactic| first | exact rfl | exact atI_nat (j := 0) rfl | exact atI_nat (j := 1) rfl | exact atI_nat (j := 2) rfl | assumption)
local macro_rules | `(tactic| walk_at "rd") => `(tactic| repeat (first
  | ((with_reducible refine' go_var ?hv ?_); (case hv => exact rfl))
  | with_reducible refine' go_c ?_
  | with_reducible refine' go_op ?_
  | with_reducible refine' go_seq ?_
  | with_reducible refine' go_asg ?_
  | with_reducible refine' go_name ?_
  | with_reducible refine' go_cons ?_
  | with_reducible refine' go_nil ?_
  | with_reducible refine' go_cb ?_
  | with_reducible refine' go_call ?_
  | with_reducible refine' go_ifS ?_
  | with_reducible refine' go_test ?_
  | with_reducible refine' go_bl ?_
  | with_reducible refine' go_ret ?_
  | with_reducible refine' go_I0 ?_
  | ((with_reducible refine' go_I ?cc ?_); (case cc => walk_at "side"))
  | ((with_reducible refine' go_ixL ?hh ?hk ?_); (case hh => walk_at "heap"); (case hk => walk_at "item"))
  | ((with_reducible refine' go_ixT ?hh ?hk ?_); (case hh => walk_at "heap"); (case hk => walk_at "item"))
  | ((with_reducible refine' go_lenL ?hh ?_); (case hh => walk_at "heap"))
  | ((with_reducible refine' go_lenT ?hh ?_); (case hh => walk_at "heap"))
  | ((with_reducible refine' go_setL ?hh ?hk ?_); (case hh => walk_at "heap"); (case hk => walk_at "item"))
  | with_reducible refine' go_abs ?_
  | with_reducible refine' go_max ?_
  | with_reducible refine' go_min ?_
  | with_reducible refine' go_int ?_
  | with_reducible refine' go_intB ?_
  | (with_reducible refine' go_eq rfl ?_)
  | (with_reducible refine' go_ne rfl ?_)
  | with_reducible refine' go_isN ?_
  | with_reducible refine' go_notN ?_
  | with_reducible refine' go_if ?_
  | with_reducible refine' go_sub ?_
  | with_reducible refine' go_par ?_
  | with_reducible refine' go_sl ?_
  | with_reducible refine' go_part ?_
  | with_reducible refine' go_pint ?_
  | with_reducible refine' go_nopart ?_
  | ((with_reducible refine' go_lenL ?hh ?_); (case hh => walk_at "heap"))
  | ((with_reducible refine' go_lenT ?hh ?_); (case hh => walk_at "heap"))
  | ((with_reducible refine' go_lenS ?hh ?_); (case hh => assumption))
  | with_reducible refine' go_gcons ?_
  | with_reducible refine' go_gnil ?_
  | with_reducible refine' go_kw ?_
  | with_reducible refine' go_par2 ?_
  | with_reducible refine' go_next ?_
  | with_reducible refine' go_drop ?_
  | with_reducible refine' go_and ?_
  | with_reducible refine' go_or ?_
  | with_reducible refine' go_not ?_
  | with_reducible refine' go_B ?_
  | with_reducible refine' go_andV ?_
  | with_reducible refine' go_orV ?_
  | with_reducible refine' go_notV ?_
  | with_reducible refine' go_chain ?_
  | with_reducible refine' go_un ?_
  | with_reducible refine' go_U ?_
  | with_reducible refine' go_bm ?_
  | with_reducible refine' go_tup ?_
  | with_reducible refine' go_lst ?_
  | with_reducible refine' go_forR1 ?_
  | with_reducible refine' go_forR2 ?_
  | with_reducible refine' go_forL ?_
  | with_reducible refine' go_forT ?_
  | with_reducible refine' go_forE ?_
  | with_reducible refine' go_lcR1 ?_
  | with_reducible refine' go_lcL ?_
  | with_reducible refine' go_lcT ?_
  | ((with_reducible refine' go_tyL ?hh ?_); (case hh => walk_at "heap"))
  | ((with_reducible refine' go_new ?hz ?_); (case hz => exact Nat.le_of_ble_eq_true rfl))
  | (with_reducible refine' ⟨_, rfl, ?_⟩)
  ))
--MACEND
def geInt (l : Int) : PyData → Bool
  | .int i => decide (l ≤ i)
  | _ => false
def spGe : Sp := fun vs H Q _ => ∃ x d l, vs = [x, .int l] ∧ Dq H x d ∧ ∀ H', Ex H H' → Q (.bl (geInt l d)) H'
theorem ge_go {x : V} {d : PyData} {l : Int} {H : Hp} {Q : VK} {E : XK} (h : Dq H x d) (k : ∀ H', Ex H H' → Q (.bl (geInt l d)) H') : spGe ([x, .int l] ++ []) H Q E := ⟨x, d, l, rfl, h, k⟩
theorem ge_int {d : PyData} {l : Int} (h : geInt l d = true) : ∃ i : Int, d = .int i ∧ l ≤ i := by
  cases d <;> simp [geInt] at h
  exact ⟨_, rfl, h⟩
theorem ge_nat (d : PyData) : geInt 0 d = isNat d := by cases d <;> rfl
theorem ge_rate {d : PyData} (h : d ≠ .none) : geInt 2 d = isRate d := by cases d <;> first | rfl | exact absurd rfl h
section
variable {P : Program} {w : World} {K : PySem.W.Frag} {mg : Str → Option Value} {base : Heap}
abbrev s__law_is_int : Stmt := top 29
theorem sc__law_is_int : FnScope ["thing", "least"] ["thing", "least"] (defScope s__law_is_int) := ⟨rfl, rfl, rfl, by decide +kernel, rfl, by decide +kernel, by decide +kernel⟩
theorem ok_law_is_int {f : Addr} {fd : FuncData} (F : Fun K "_law_is_int" "_law_is_int" s__law_is_int f fd) (m_isinstance : mg "isinstance" = none) (m_int : mg "int" = none) (m_bool : mg "bool" = none) :
    FnOk P w K mg base CX0 1 f fd ["thing", "least"] spGe := by
  refine F.ok sc__law_is_int (fun vs H Q E h => ?_) (fun cdv A outer s H vs Q E hr h => ?_)
  · obtain ⟨x, d, l, rfl, _⟩ := h
    rfl
  · obtain ⟨x, d, l, rfl, hd, k⟩ := h
    refine ⟨_, (pss_one (ps_ret (pe_and (pe_callB call_isi rfl m_isinstance (by decide +kernel) (pa_cons (pv 0) (pa_cons (pe_bltn (v := .ty "int") (u := .type "int") rfl m_int (by decide +kernel) rfl) pa_nil))) (pe_and (pe_not (pe_callB call_isi rfl m_isinstance (by decide +kernel) (pa_cons (pv 0) (pa_cons (pe_bltn (v := .ty "bool") (u := .type "bool") rfl m_bool (by decide +kernel) rfl) pa_nil)))) (pe_one (pe_cmpR op_ge (pv 0) (pv 1) (nomark _))))))), ?_⟩
    walk_at "rd"
    refine go_isi hd (kit_int d) ?_
    walk_at "rd"
    cases d with
    | int i =>
      cases hd
      refine iteT ?_
      walk_at "rd"
      refine go_isi (.int i) (kit_bool _) ?_
      walk_at "rd"
      refine iteT ?_
      walk_at "rd"
      exact k _ (Ex.refl _)
    | bool b =>
      refine iteT ?_
      walk_at "rd"
      refine go_isi hd (kit_bool _) ?_
      walk_at "rd"
      exact iteF (k _ (Ex.refl _))
    | none => exact iteF (k _ (Ex.refl _))
    | str y => exact iteF (k _ (Ex.refl _))
    | list ds => exact iteF (k _ (Ex.refl _))
    | tuple ds => exact iteF (k _ (Ex.refl _))
    | dict ds => exact iteF (k _ (Ex.refl _))
theorem strs_ne : ¬ ((("pass" : String) : Str) = "mix") ∧ ¬ ((("pass" : String) : Str) = "dial") ∧ ¬ ((("dial" : String) : Str) = "mix") := by decide +kernel
theorem band3 {d e : PyData} : isBand (.tuple [d, e]) = (isNat d && (match d with | .int a => geInt a e | _ => false)) := by
  cases d with
  | int a =>
    cases e with
    | int b =>
      show (decide (0 ≤ a) && decide (0 ≤ b) && decide (a ≤ b)) = (decide (0 ≤ a) && decide (a ≤ b))
      by_cases h1 : 0 ≤ a
      · by_cases h2 : a ≤ b
        · have h3 : 0 ≤ b := Int.le_trans h1 h2
          simp [h1, h2, h3]
        · simp [h1, h2]
      · simp [h1]
    | _ => simp [isBand, isNat, geInt]
  | _ => cases e <;> rfl
theorem band_len {d : PyData} {ds : List PyData} (h : ds.length ≠ 1) : isBand (.tuple (d :: ds)) = false := by
  match ds, h with
  | [], _ => cases d <;> rfl
  | [_], h => exact absurd rfl h
  | e :: _ :: _, _ => cases d <;> first | rfl | (cases e <;> rfl)
abbrev s__law_is_stage : Stmt := top 30
theorem sc__law_is_stage : FnScope ["thing"] ["thing"] (defScope s__law_is_stage) := ⟨rfl, rfl, rfl, by decide +kernel, rfl, by decide +kernel, by decide +kernel⟩
theorem ok_law_is_stage {f : Addr} {fd : FuncData} (F : Fun K "_law_is_stage" "_law_is_stage" s__law_is_stage f fd) (m_isinstance : mg "isinstance" = none) (m_tuple : mg "tuple" = none) (m_str : mg "str" = none) (m_len : mg "len" = none) (m_int : mg "int" = none) (m_bool : mg "bool" = none)
    (h__law_is_int : Has P w K mg base 1 "_law_is_int" spGe) :
    FnOk P w K mg base CX0 2 f fd ["thing"] (spLook isStage) := by
  refine F.ok sc__law_is_stage (fun vs H Q E h => ?_) (fun cdv A outer s H vs Q E hr h => ?_)
  · obtain ⟨x, d, rfl, _⟩ := h
    rfl
  · obtain ⟨x, d, rfl, hd, k⟩ := h
    refine ⟨_, (pss_cons (ps_if (PW.pt (pw_or (pt_not (pt_val (pe_callB call_isi rfl m_isinstance (by decide +kernel) (pa_cons (pv 0) (pa_cons (pe_bltn (v := .ty "tuple") (u := .type "tuple") rfl m_tuple (by decide +kernel) rfl) pa_nil))))) (pw_or (pt_cmpR op_lt (pe_callB call_lenQ rfl m_len PySem.boot_len (pa_cons (pv 0) pa_nil)) pe_int (nomark _)) (pw_or1 (pt_not (pt_val (pe_callB call_isi rfl m_isinstance (by decide +kernel) (pa_cons (pe_ix ix_tup (pv 0) pe_int (fun _ _ => rfl)) (pa_cons (pe_bltn (v := .ty "str") (u := .type "str") rfl m_str (by decide +kernel) rfl) pa_nil)))))))))
  (pss_one (ps_ret pe_bl))
  pss_nil)
  (pss_cons (ps_if (pt_cmpR op_eq (pe_ix ix_tup (pv 0) pe_int (fun _ _ => rfl)) pe_str (nomark _))
  (pss_one (ps_ret (pe_and (pe_cmpR op_eq (pe_callB call_lenQ rfl m_len PySem.boot_len (pa_cons (pv 0) pa_nil)) pe_int (nomark _)) (pe_and (pe_hs h__law_is_int hr rfl (pa_cons (pe_ix ix_tup (pv 0) pe_int (fun _ _ => rfl)) (pa_cons pe_int pa_nil))) (pe_one (pe_hs h__law_is_int hr rfl (pa_cons (pe_ix ix_tup (pv 0) pe_int (fun _ _ => rfl)) (pa_cons (pe_ix ix_tup (pv 0) pe_int (fun _ _ => rfl)) pa_nil))))))))
  pss_nil)
  (pss_cons (ps_if (pt_cmpR op_ne (pe_callB call_lenQ rfl m_len PySem.boot_len (pa_cons (pv 0) pa_nil)) pe_int (nomark _))
  (pss_one (ps_ret pe_bl))
  pss_nil)
  (pss_cons (ps_if (pt_cmpR op_eq (pe_ix ix_tup (pv 0) pe_int (fun _ _ => rfl)) pe_str (nomark _))
  (pss_one (ps_ret (pe_and (pe_callB call_isi rfl m_isinstance (by decide +kernel) (pa_cons (pe_ix ix_tup (pv 0) pe_int (fun _ _ => rfl)) (pa_cons (pe_bltn (v := .ty "int") (u := .type "int") rfl m_int (by decide +kernel) rfl) pa_nil))) (pe_one (pe_not (pe_callB call_isi rfl m_isinstance (by decide +kernel) (pa_cons (pe_ix ix_tup (pv 0) pe_int (fun _ _ => rfl)) (pa_cons (pe_bltn (v := .ty "bool") (u := .type "bool") rfl m_bool (by decide +kernel) rfl) pa_nil))))))))
  pss_nil)
  (pss_one (ps_ret (pe_and (pe_cmpR op_eq (pe_ix ix_tup (pv 0) pe_int (fun _ _ => rfl)) pe_str (nomark _)) (pe_one (pe_hs h__law_is_int hr rfl (pa_cons (pe_ix ix_tup (pv 0) pe_int (fun _ _ => rfl)) (pa_cons pe_int pa_nil))))))))))), ?_⟩
    have no : isStage d = false → ∀ H', Ex H H' → Q (.bl false) H' := fun e H' e' => by rw [← e]; exact k H' e'
    walk_at "rd"
    refine go_isi hd (kit_tuple d) ?_
    walk_at "rd"
    rcases tuple_or d with ⟨ds, rfl⟩ | hn
    · obtain ⟨a, xs, rfl, ha, hda⟩ := hd.tupleAt
      have hl := hda.len
      refine iteF ?_
      walk_at "rd"
      cases hda with
      | nil =>
        refine iteT (iteT ?_)
        walk_at "rd"
        exact no rfl _ (Ex.refl _)
      | cons q1 hda =>
        rename_i v vs d ds
        cases hda with
        | nil =>
          refine iteT (iteT ?_)
          walk_at "rd"
          refine no ?_ _ (Ex.refl _)
          cases d <;> rfl
        | cons q2 hda =>
          rename_i v2 vs d2 ds
          have hlt : decide (((v :: v2 :: vs).length : Int) < 2) = false := by simp; omega
          rw [hlt]
          refine iteF ?_
          walk_at "rd"
          refine go_isi q1 (kit_str d) ?_
          walk_at "rd"
          rcases str_or d with ⟨nm, rfl⟩ | hn
          · cases q1
            obtain ⟨sp1, sp2, sp3⟩ := strs_ne
            refine iteF ?_
            walk_at "rd"
            refine ite2 (fun c => ?_) (fun c => ?_)
            · obtain rfl : nm = "pass" := by simpa using c
              have e : isStage (.tuple (.str "pass" :: d2 :: ds)) = isBand (.tuple (d2 :: ds)) := by simp [isStage, sp1, sp2]
              walk_at "rd"
              have len3 : decide (V.int ((V.str "pass" :: v2 :: vs).length : Int) = V.int 3) = decide (ds.length = 1) := by
                have := hda.len
                simp
                omega
              rw [len3]
              by_cases h1 : ds.length = 1
              · rw [decide_eq_true h1]
                refine iteT ?_
                match ds, hda, h1 with
                | [d3], .cons (v := v3) q3 .nil, _ =>
                  walk_at "rd"
                  refine ge_go q2 fun H1 e1 => ?_
                  rw [ge_nat]
                  walk_at "rd"
                  rw [band3] at e
                  cases hn : isNat d2 with
                  | false =>
                    refine iteF (no ?_ _ e1)
                    rw [e, hn]
                    rfl
                  | true =>
                    obtain ⟨i, rfl, hi⟩ := nat_int hn
                    cases q2
                    refine iteT ?_
                    have ha1 := Evl.ex_rd e1 ha
                    walk_at "rd"
                    refine ge_go (q3.ex e1) fun H2 e2 => ?_
                    have e' : isStage (.tuple (.str "pass" :: .int i :: [d3])) = geInt i d3 := by rw [e, hn]; rfl
                    rw [← e']
                    exact k _ (e1.trans e2)
              · rw [decide_eq_false h1]
                refine iteF (no ?_ _ (Ex.refl _))
                rw [e, band_len h1]
            · have cp : nm ≠ "pass" := by simpa using c
              have len2 : (!decide (V.int ((V.str nm :: v2 :: vs).length : Int) = V.int 2)) = !ds.isEmpty := by
                have := hda.len
                cases ds with
                | nil => cases vs with
                         | nil => rfl
                         | cons _ _ => simp at this
                | cons _ _ => cases vs with
                              | nil => simp at this
                              | cons _ _ => simp; omega
              walk_at "rd"
              rw [len2]
              cases he : ds.isEmpty with
              | false =>
                refine iteT ?_
                walk_at "rd"
                refine no ?_ _ (Ex.refl _)
                simp [isStage, he, cp]
              | true =>
                refine iteF ?_
                walk_at "rd"
                refine ite2 (fun c2 => ?_) (fun c2 => ?_)
                · obtain rfl : nm = "dial" := by simpa using c2
                  have e : isStage (.tuple (.str "dial" :: d2 :: ds)) = isInt d2 := by simp [isStage, he, sp3]
                  walk_at "rd"
                  refine go_isi q2 (kit_int d2) ?_
                  walk_at "rd"
                  have fin : isInt d2 = !pBool d2 → rIsi K [v2, .ty "bool"] H fun v H' => ∃ c, v = .bl c ∧ Q (.bl (!c)) H' := fun z =>
                    go_isi q2 (kit_bool d2) ⟨_, rfl, by rw [← z, ← e]; exact k H (Ex.refl H)⟩
                  cases d2 with
                  | int i =>
                    refine iteT ?_
                    walk_at "rd"
                    exact fin rfl
                  | bool b =>
                    refine iteT ?_
                    walk_at "rd"
                    exact fin rfl
                  | none => exact iteF (no e _ (Ex.refl _))
                  | str y => exact iteF (no e _ (Ex.refl _))
                  | list ds => exact iteF (no e _ (Ex.refl _))
                  | tuple ds => exact iteF (no e _ (Ex.refl _))
                  | dict ds => exact iteF (no e _ (Ex.refl _))
                · have cd : nm ≠ "dial" := by simpa using c2
                  walk_at "rd"
                  have en : decide (V.str nm = V.str "mix") = decide (nm = "mix") := by simp
                  rw [en]
                  cases hm : decide (nm = "mix") with
                  | false =>
                    refine iteF (no ?_ _ (Ex.refl _))
                    have cm : nm ≠ "mix" := by simpa using hm
                    simp [isStage, cm, cd, cp]
                  | true =>
                    obtain rfl : nm = "mix" := by simpa using hm
                    refine iteT ?_
                    walk_at "rd"
                    refine ge_go q2 fun H1 e1 => ?_
                    rw [ge_nat]
                    have e : isStage (.tuple (.str "mix" :: d2 :: ds)) = isNat d2 := by simp [isStage, he]
                    rw [← e]
                    exact k _ e1
          · rw [hn]
            refine iteT ?_
            walk_at "rd"
            refine no ?_ _ (Ex.refl _)
            cases d <;> first | rfl | simp [pStr] at hn
    · rw [hn]
      refine iteT (iteT ?_)
      walk_at "rd"
      refine no ?_ _ (Ex.refl _)
      cases d <;> first | rfl | simp [pTuple] at hn
/-- as the law tells it -/
def lawV : Option (Option Nat) → V
  | none => .int (-1)
  | some none => .non
  | some (some i) => .int i
def spFault : Sp := fun vs H Q _ => ∃ x d, vs = [x] ∧ Dq H x d ∧ ∀ H', Ex H H' → Q (lawV (fault d)) H'
abbrev s__law_radio_fault : Stmt := top 31
theorem sc__law_radio_fault : FnScope ["thing", "dials_here", "spot", "stage"] ["thing"] (defScope s__law_radio_fault) := ⟨rfl, rfl, rfl, by decide +kernel, rfl, by decide +kernel, by decide +kernel⟩
theorem ok_law_fault {f : Addr} {fd : FuncData} (F : Fun K "_law_radio_fault" "_law_radio_fault" s__law_radio_fault f fd) (m_isinstance : mg "isinstance" = none) (m_tuple : mg "tuple" = none) (m_list : mg "list" = none) (m_len : mg "len" = none) (m_enumerate : mg "enumerate" = none) (m_int : mg "int" = none)
    (h__law_is_int : Has P w K mg base 1 "_law_is_int" spGe) (h__law_is_stage : Has P w K mg base 2 "_law_is_stage" (spLook isStage)) :
    FnOk P w K mg base CX0 3 f fd ["thing"] spFault := by
  refine F.ok sc__law_radio_fault (fun vs H Q E h => ?_) (fun cdv A outer s H vs Q E hr h => ?_)
  · obtain ⟨x, d, rfl, _⟩ := h
    rfl
  · obtain ⟨x, d, rfl, hd, k⟩ := h
    refine ⟨_, (pss_cons (ps_if (PW.pt (pw_or (pt_not (pt_val (pe_callB call_isi rfl m_isinstance (by decide +kernel) (pa_cons (pv 0) (pa_cons (pe_bltn (v := .ty "tuple") (u := .type "tuple") rfl m_tuple (by decide +kernel) rfl) pa_nil))))) (pw_or (pt_cmpR op_ne (pe_callB call_lenQ rfl m_len PySem.boot_len (pa_cons (pv 0) pa_nil)) pe_int (nomark _)) (pw_or1 (pt_not (pt_val (pe_callB call_isi rfl m_isinstance (by decide +kernel) (pa_cons (pe_ix ix_tup (pv 0) pe_int (fun _ _ => rfl)) (pa_cons (pe_bltn (v := .ty "list") (u := .type "list") rfl m_list (by decide +kernel) rfl) pa_nil)))))))))
  (pss_one (ps_ret pe_non))
  pss_nil)
  (pss_cons (ps_if (PW.pt (pw_or (pt_cmpR op_eq (pe_callB call_lenQ rfl m_len PySem.boot_len (pa_cons (pe_ix ix_tup (pv 0) pe_int (fun _ _ => rfl)) pa_nil)) pe_int (nomark _)) (pw_or1 (pt_cmpR op_gt (pe_callB call_lenQ rfl m_len PySem.boot_len (pa_cons (pe_ix ix_tup (pv 0) pe_int (fun _ _ => rfl)) pa_nil)) pe_int (nomark _)))))
  (pss_one (ps_ret pe_non))
  pss_nil)
  (pss_cons (ps_set (i := 1) sc__law_radio_fault.nd rfl (Or.inl rfl) pe_int)
  (pss_cons (ps_for PassesOwn.never rfl (pi_enum (by rfl) m_enumerate (pa_cons (pe_ix ix_tup (pv 0) pe_int (fun _ _ => rfl)) pa_nil)) (pg_tup (by rfl) (pgs_cons (pg_name (i := 2) sc__law_radio_fault.nd rfl (Or.inl rfl)) (pgs_cons (pg_name (i := 3) sc__law_radio_fault.nd rfl (Or.inl rfl)) pgs_nil)))
  (pss_cons (ps_if (pt_not (pt_val (pe_hs h__law_is_stage hr rfl (pa_cons (pv 3) pa_nil))))
  (pss_one (ps_ret (pv 2)))
  pss_nil)
  (pss_cons (ps_set (i := 1) sc__law_radio_fault.nd rfl (Or.inl rfl) (pe_op op_add (pv 1) (pe_callTy call_intQ rfl m_int boot_int (pa_cons (pe_cmpR op_eq (pe_ix ix_tup (pv 3) pe_int (fun _ _ => rfl)) pe_str (nomark _)) pa_nil))))
  (pss_one (ps_if (pt_cmpR op_eq (pv 1) pe_int (nomark _))
  (pss_one (ps_ret (pv 2)))
  pss_nil)))))
  (pss_one (ps_ret (pe_ifExp (PW.pt (pw_or (pt_cmpR op_isN1 (pe_ix ix_tup (pv 0) pe_int (fun _ _ => rfl)) pe_non (nomark _)) (pw_or1 (pt_val (pe_hs h__law_is_int hr rfl (pa_cons (pe_ix ix_tup (pv 0) pe_int (fun _ _ => rfl)) (pa_cons pe_int pa_nil))))))) (pe_un un_neg pe_int) (pe_callB call_lenQ rfl m_len PySem.boot_len (pa_cons (pe_ix ix_tup (pv 0) pe_int (fun _ _ => rfl)) pa_nil))))))))), ?_⟩
    have no : isFrame d = false → Q .non H := fun e => by
      have := k H (Ex.refl H)
      rw [frame_no e] at this
      exact this
    walk_at "rd"
    refine go_isi hd (kit_tuple d) ?_
    walk_at "rd"
    rcases tuple_or d with ⟨ds, rfl⟩ | hn
    · obtain ⟨a, xs, rfl, ha, hda⟩ := hd.tupleAt
      have hl := hda.len
      refine iteF ?_
      walk_at "rd"
      by_cases h2 : ds.length = 2
      · obtain ⟨v1, v2, d1, r, rfl, rfl, hv1, hv2⟩ := dqa2 hda h2
        refine iteNS rfl ?_
        walk_at "rd"
        refine go_isi hv1 (kit_list d1) ?_
        walk_at "rd"
        rcases list_or d1 with ⟨ss, rfl⟩ | hn
        · obtain ⟨l, ys, rfl, hly, hys⟩ := hv1.listAt
          have hl2 := hys.len
          refine iteF ?_
          walk_at "rd"
          by_cases h0 : ss.length = 0
          · have c0 : decide (V.int (ys.length : Int) = V.int 0) = true := by
              have hy : ys.length = 0 := by omega
              rw [hy]
              rfl
            rw [c0]
            refine iteT (iteT ?_)
            walk_at "rd"
            refine no ?_
            simp [isFrame, h0]
          have c0 : decide (V.int (ys.length : Int) = V.int 0) = false := by simp; intro z; rw [z] at hl2; simp at hl2; omega
          rw [c0]
          refine iteF ?_
          walk_at "rd"
          by_cases h8 : ss.length > 8
          · have c8 : decide (8 < (ys.length : Int)) = true := by simp; omega
            rw [c8]
            refine iteT ?_
            walk_at "rd"
            refine no ?_
            simp [isFrame]
            omega
          have c8 : decide (8 < (ys.length : Int)) = false := by simp; omega
          rw [c8]
          refine iteF ?_
          have hf : isFrame (.tuple [.list ss, r]) = true := by
            simp [isFrame]
            omega
          obtain ⟨ss', r', ers, hfl⟩ := frame_yes hf
          obtain ⟨rfl, rfl⟩ : ss = ss' ∧ r = r' := by simpa using ers
          walk_at "rd"
          refine ⟨l, ys, rfl, .inl hly, ?_⟩
          refine run_forE ys (fun i σ G => ∃ (v2' v3 : Option V) (has : Bool), σ = [some (.ref a), some (.int (if has then 1 else 0)), v2', v3] ∧ Ex H G ∧ seen ss i false = some has) ?_ ?_ ?_ ?_
          · exact ⟨_, _, false, rfl, Ex.refl _, by cases ss <;> rfl⟩
          · rintro i σ G _ ⟨_, _, has, rfl, e, _⟩
            exact .inl (Evl.ex_rd e hly)
          · rintro i y σ G Tp hi ⟨v2', v3, has, rfl, e, hseen⟩ hT
            obtain ⟨sd, hs, hds⟩ := hys.get hi
            have hlt : i < ss.length := (List.getElem?_eq_some_iff.mp hs).1
            have hdrop : ss.drop i = sd :: ss.drop (i + 1) := by
              rw [List.drop_eq_getElem_cons hlt, (List.getElem?_eq_some_iff.mp hs).2]
            have hfs := flt_seen ss i 0 false has hseen (Nat.le_of_lt hlt)
            rw [hdrop, Nat.zero_add] at hfs
            have e2 := e.trans (Ex.new (o := HO.tup [.int (i : Nat), y]) hT)
            refine go_gtup (.inl (.inl upd_same)) rfl ?_
            walk_at "rd"
            refine look_go (hds.ex e2) fun H2 e3 => ?_
            walk_at "rd"
            have e4 := e2.trans e3
            have tell : ∀ H', Ex H H' → fltS (sd :: ss.drop (i + 1)) i has = some i → Q (.int i) H' := fun H' e' z => by
              have := k H' e'
              rw [hfl, hfs, z] at this
              exact this
            cases hst : isStage sd with
            | false =>
              refine iteT ?_
              walk_at "rd"
              exact tell _ e4 (by simp [fltS, hst])
            | true =>
              refine iteF ?_
              obtain ⟨b2, zs, kn, rfl, hb, hz, hdl⟩ := stage_nm (hds.ex e4) hst
              walk_at "rd"
              rw [← hdl]
              cases hdd : isDialD sd with
              | true =>
                cases has with
                | true =>
                  refine ite2 (fun _ => ?_) (fun c => absurd rfl c)
                  walk_at "rd"
                  exact tell _ e4 (by simp [fltS, hst, hdd])
                | false =>
                  refine ite2 (fun c => by cases c) (fun _ => ?_)
                  walk_at "rd"
                  refine ⟨_, _, true, rfl, e4, ?_⟩
                  have := seen_more ss i false false sd hseen hs hst fun _ => rfl
                  rw [hdd] at this
                  exact this
              | false =>
                have := seen_more ss i false has sd hseen hs hst fun z => by rw [hdd] at z; cases z
                rw [hdd] at this
                cases has with
                | true =>
                  refine ite2 (fun c => by cases c) (fun _ => ?_)
                  walk_at "rd"
                  exact ⟨_, _, true, rfl, e4, by simpa using this⟩
                | false =>
                  refine ite2 (fun c => by cases c) (fun _ => ?_)
                  walk_at "rd"
                  exact ⟨_, _, false, rfl, e4, by simpa using this⟩
          · rintro σ G ⟨v2', v3, has, rfl, e, hseen⟩
            rw [hl2] at hseen
            have hfs := flt_seen ss ss.length 0 false has hseen (Nat.le_refl _)
            rw [List.drop_length] at hfs
            have hno : fltS ss 0 false = none := by rw [hfs]; rfl
            rw [hno] at hfl
            have haG := Evl.ex_rd e ha
            have hlG := Evl.ex_rd e hly
            walk_at "rd"
            have fin : ∀ H', Ex H H' → isRate r = true → Q (.int (-1)) H' := fun H' e' z => by
              have := k H' e'
              rw [hfl, z] at this
              exact this
            have bad : ∀ H', Ex H H' → isRate r = false → Q (.int ys.length) H' := fun H' e' z => by
              have := k H' e'
              rw [hfl, z] at this
              rw [hl2]
              exact this
            by_cases hn : r = .none
            · subst hn
              cases hv2
              refine iteT (iteT ?_)
              walk_at "rd"
              exact fin _ e rfl
            · have hv : decide (v2 = V.non) = false := by
                refine decide_eq_false fun z => ?_
                subst z
                cases hv2
                exact hn rfl
              rw [hv]
              refine iteF ?_
              walk_at "rd"
              refine ge_go (hv2.ex e) fun H2 e2 => ?_
              rw [ge_rate hn]
              cases hrt : isRate r with
              | true =>
                refine ⟨_, rfl, iteT ?_⟩
                walk_at "rd"
                exact fin _ (e.trans e2) hrt
              | false =>
                refine ⟨_, rfl, iteF ?_⟩
                have haG2 := Evl.ex_rd e2 haG
                have hlG2 := Evl.ex_rd e2 hlG
                walk_at "rd"
                exact bad _ (e.trans e2) hrt
        · rw [hn]
          refine iteT ?_
          walk_at "rd"
          refine no ?_
          cases d1 <;> first | rfl | simp [pList] at hn
      · have hne : (!decide (V.int (xs.length : Int) = V.int 2)) = true := by
          simp
          omega
        rw [hne]
        refine iteT (iteT ?_)
        walk_at "rd"
        refine no ?_
        match ds, h2 with
        | [], _ => rfl
        | [x], _ => cases x <;> rfl
        | [_, _], h => exact absurd rfl h
        | x :: y :: _ :: _, _ => cases x <;> rfl
    · rw [hn]
      refine iteT (iteT ?_)
      walk_at "rd"
      refine no ?_
      cases d <;> first | rfl | simp [pTuple] at hn
end
end Kx

set_option Elab.async false
set_option linter.all false
set_option maxRecDepth 100000
set_option maxHeartbeats 4000000

namespace Kx
open PySem PySem.Spec PyProof.Rows L2 HX
open Evl (Ex)
local macro_rules | `(tactic| walk_at "side") => `(tactic| first | assumption | ((try dsimp only); first | assumption | decide +kernel | omega | exact ⟨by decide, by decide⟩ | (left; decide) | (left; omega) | (refine Or.inl ⟨?_, ?_⟩ <;> omega) | (refine Or.inr ⟨?_, ?_⟩ <;> omega)))
local macro_rules | `(tactic| walk_at "heap") => `(tactic| first | assumption | exact upd_same | exact Or.inl (by assumption) | exact Or.inl upd_same)
local macro_rules | `(tactic| walk_at "item") => `(tactic| first | exact rfl | exact atI_nat (j := 0) rfl | exact atI_nat (j := 1) rfl | exact atI_nat (j := 2) rfl | assumption)
local macro_rules | `(tactic| walk_at "rd") => `(tactic| repeat (first
  | ((with_reducible refine' go_var ?hv ?_); (case hv => exact rfl))
  | with_reducible refine' go_c ?_
  | with_reducible refine' go_op ?_
  | with_reducible refine' go_seq ?_
  | with_reducible refine' go_asg ?_
  | with_reducible refine' go_name ?_
  | with_reducible refine' go_cons ?_
  | with_reducible refine' go_nil ?_
  | with_reducible refine' go_cb ?_
  | with_reducible refine' go_call ?_
  | with_reducible refine' go_ifS ?_
  | with_reducible refine' go_test ?_
  | with_reducible refine' go_bl ?_
  | with_reducible refine' go_ret ?_
  | with_reducible refine' go_I0 ?_
  | ((with_reducible refine' go_I ?cc ?_); (case cc => walk_at "side"))
  | ((with_reducible refine' go_ixL ?hh ?hk ?_); (case hh => walk_at "heap"); (case hk => walk_at "item"))
  | ((with_reducible refine' go_ixT ?hh ?hk ?_); (case hh => walk_at "heap"); (case hk => walk_at "item"))
  | ((with_reducible refine' go_lenL ?hh ?_); (case hh => walk_at "heap"))
  | ((with_reducible refine' go_lenT ?hh ?_); (case hh => walk_at "heap"))
  | ((with_reducible refine' go_setL ?hh ?hk ?_); (case hh => walk_at "heap"); (case hk => walk_at "item"))
  | with_reducible refine' go_abs ?_
  | with_reducible refine' go_max ?_
  | with_reducible refine' go_min ?_
  | with_reducible refine' go_int ?_
  | with_reducible refine' go_intB ?_
  | (with_reducible refine' go_eq rfl ?_)
  | (with_reducible refine' go_ne rfl ?_)
  | with_reducible refine' go_isN ?_
  | with_reducible refine' go_notN ?_
  | with_reducible refine' go_if ?_
  | with_reducible refine' go_sub ?_
  | with_reducible refine' go_par ?_
  | with_reducible refine' go_sl ?_
  | with_reducible refine' go_part ?_
  | with_reducible refine' go_pint ?_
  | with_reducible refine' go_nopart ?_
  | ((with_reducible refine' go_lenL ?hh ?_); (case hh => walk_at "heap"))
  | ((with_reducible refine' go_lenT ?hh ?_); (case hh => walk_at "heap"))
  | ((with_reducible refine' go_lenS ?hh ?_); (case hh => assumption))
  | with_reducible refine' go_gcons ?_
  | with_reducible refine' go_gnil ?_
  | with_reducible refine' go_kw ?_
  | with_reducible refine' go_par2 ?_
  | with_reducible refine' go_next ?_
  | with_reducible refine' go_drop ?_
  | with_reducible refine' go_and ?_
  | with_reducible refine' go_or ?_
  | with_reducible refine' go_not ?_
  | with_reducible refine' go_B ?_
  | with_reducible refine' go_andV ?_
  | with_reducible refine' go_orV ?_
  | with_reducible refine' go_notV ?_
  | with_reducible refine' go_chain ?_
  | with_reducible refine' go_un ?_
  | with_reducible refine' go_U ?_
  | with_reducible refine' go_bm ?_
  | with_reducible refine' go_tup ?_
  | with_reducible refine' go_lst ?_
  | with_reducible refine' go_forR1 ?_
  | with_reducible refine' go_forR2 ?_
  | with_reducible refine' go_forL ?_
  | with_reducible refine' go_forT ?_
  | with_reducible refine' go_forE ?_
  | with_reducible refine' go_lcR1 ?_
  | with_reducible refine' go_lcL ?_
  | with_reducible refine' go_lcT ?_
  | ((with_reducible refine' go_tyL ?hh ?_); (case hh => walk_at "heap"))
  | ((with_reducible refine' go_new ?hz ?_); (case hz => exact Nat.le_of_ble_eq_true rfl))
  | (with_reducible refine' ⟨_, rfl, ?_⟩)
  ))
--MACEND
section
variable {X : Cx} {k n : Nat} {sp : Sp} {x : Str} {p pos : Pos}
theorem pe_hs0 (h : Has X.prog X.w X.K X.mg X.base k x sp) (hr : Room n X.A) (hg : Gl X x) (hkn : k ≤ n := by decide) (hdb : (x == ("__debug__" : Str)) = false := by decide) :
    PE X (.Call (.Name x p) [] [] pos) (tCall sp [] E0 tNil) := by
  obtain ⟨f, fd, ps, F, hm, hk, hb⟩ := h
  exact pe_call0 F (hr.mono hkn) hg hm hk hb .nil pass0 hdb
end
theorem fine_dec {w k : Nat} {l : List PyData} (h : (l.all fun d => d.showable && d.leavesShort 200 && decide (d.weight ≤ w) && decide (d.depth ≤ k)) = true) : ∀ d ∈ l, Fine w k d := by
  intro d hd
  have := List.all_eq_true.mp h d hd
  simp only [Bool.and_eq_true, decide_eq_true_eq] at this
  exact ⟨this.1.1.1, this.1.1.2, this.1.2, this.2⟩
def spOddS : Sp := fun vs H Q _ => vs = [] ∧ ∀ (p : Addr) (H' : Hp) (xs : List V) (ds : List PyData), Ex H H' → H' p = some (.lst xs) → DqAll H' xs ds → (∀ d ∈ ds, Fine 300 3 d) → ds.length ≤ 60 → Q (.ref p) H'
section
variable {P : Program} {w : World} {K : PySem.W.Frag} {mg : Str → Option Value} {base : Heap}
abbrev s__law_odd_stages : Stmt := top 32
theorem sc__law_odd_stages : FnScope ["found"] [] (defScope s__law_odd_stages) := ⟨rfl, rfl, rfl, by decide +kernel, rfl, by decide +kernel, by decide +kernel⟩
theorem ok_odd_stages {f : Addr} {fd : FuncData} (F : Fun K "_law_odd_stages" "_law_odd_stages" s__law_odd_stages f fd) : FnOk P w K mg base CX0 1 f fd [] spOddS := by
  refine F.ok sc__law_odd_stages (fun vs H Q E h => ?_) (fun cdv A outer s H vs Q E hr h => ?_)
  · obtain ⟨rfl, _⟩ := h
    rfl
  · obtain ⟨rfl, k⟩ := h
    have hC := cl0
    refine ⟨_, (pss_cons (ps_set (i := 0) sc__law_odd_stages.nd rfl (Or.inl rfl) (lst_lit (dat_cons hC dat_non (dat_cons hC dat_int (dat_cons hC dat_str (dat_cons hC dat_str (dat_cons hC (dat_tup dat_nil (by first | exact Nat.le_of_ble_eq_true rfl | (refine len_line ?_; simp only [List.length_append, List.length_cons, List.length_nil]; skip; omega))) (dat_cons hC (dat_tup (dat_cons hC dat_str dat_nil) (by first | exact Nat.le_of_ble_eq_true rfl | (refine len_line ?_; simp only [List.length_append, List.length_cons, List.length_nil]; skip; omega))) (dat_cons hC (dat_tup (dat_cons hC dat_str dat_nil) (by first | exact Nat.le_of_ble_eq_true rfl | (refine len_line ?_; simp only [List.length_append, List.length_cons, List.length_nil]; skip; omega))) (dat_cons hC (dat_tup (dat_cons hC dat_str dat_nil) (by first | exact Nat.le_of_ble_eq_true rfl | (refine len_line ?_; simp only [List.length_append, List.length_cons, List.length_nil]; skip; omega))) (dat_cons hC (dat_tup (dat_cons hC dat_str (dat_cons hC dat_int dat_nil)) (by first | exact Nat.le_of_ble_eq_true rfl | (refine len_line ?_; simp only [List.length_append, List.length_cons, List.length_nil]; skip; omega))) (dat_cons hC (dat_tup (dat_cons hC dat_str (dat_cons hC dat_neg dat_nil)) (by first | exact Nat.le_of_ble_eq_true rfl | (refine len_line ?_; simp only [List.length_append, List.length_cons, List.length_nil]; skip; omega))) (dat_cons hC (dat_tup (dat_cons hC dat_str (dat_cons hC dat_bl dat_nil)) (by first | exact Nat.le_of_ble_eq_true rfl | (refine len_line ?_; simp only [List.length_append, List.length_cons, List.length_nil]; skip; omega))) dat_nil))))))))))) (by first | exact Nat.le_of_ble_eq_true rfl | (refine len_line ?_; simp only [List.length_append, List.length_cons, List.length_nil]; skip; omega))))
  (pss_cons (ps_set (i := 0) sc__law_odd_stages.nd rfl (Or.inl rfl) (pe_op op_cat (pv 0) (lst_lit (dat_cons hC (dat_tup (dat_cons hC dat_str (dat_cons hC dat_non dat_nil)) (by first | exact Nat.le_of_ble_eq_true rfl | (refine len_line ?_; simp only [List.length_append, List.length_cons, List.length_nil]; skip; omega))) (dat_cons hC (dat_tup (dat_cons hC dat_str (dat_cons hC dat_str dat_nil)) (by first | exact Nat.le_of_ble_eq_true rfl | (refine len_line ?_; simp only [List.length_append, List.length_cons, List.length_nil]; skip; omega))) (dat_cons hC (dat_tup (dat_cons hC dat_str (dat_cons hC dat_int (dat_cons hC dat_int dat_nil))) (by first | exact Nat.le_of_ble_eq_true rfl | (refine len_line ?_; simp only [List.length_append, List.length_cons, List.length_nil]; skip; omega))) (dat_cons hC (dat_tup (dat_cons hC dat_str (dat_cons hC (dat_lst (lst_lit (dat_cons hC dat_int dat_nil) (by first | exact Nat.le_of_ble_eq_true rfl | (refine len_line ?_; simp only [List.length_append, List.length_cons, List.length_nil]; skip; omega)))) dat_nil)) (by first | exact Nat.le_of_ble_eq_true rfl | (refine len_line ?_; simp only [List.length_append, List.length_cons, List.length_nil]; skip; omega))) (dat_cons hC (dat_lst (lst_lit (dat_cons hC dat_str (dat_cons hC dat_int dat_nil)) (by first | exact Nat.le_of_ble_eq_true rfl | (refine len_line ?_; simp only [List.length_append, List.length_cons, List.length_nil]; skip; omega)))) (dat_cons hC (dat_tup (dat_cons hC dat_str (dat_cons hC dat_int dat_nil)) (by first | exact Nat.le_of_ble_eq_true rfl | (refine len_line ?_; simp only [List.length_append, List.length_cons, List.length_nil]; skip; omega))) (dat_cons hC (dat_tup (dat_cons hC dat_str (dat_cons hC dat_int dat_nil)) (by first | exact Nat.le_of_ble_eq_true rfl | (refine len_line ?_; simp only [List.length_append, List.length_cons, List.length_nil]; skip; omega))) dat_nil))))))) (by first | exact Nat.le_of_ble_eq_true rfl | (refine len_line ?_; simp only [List.length_append, List.length_cons, List.length_nil]; skip; omega)))))
  (pss_cons (ps_set (i := 0) sc__law_odd_stages.nd rfl (Or.inl rfl) (pe_op op_cat (pv 0) (lst_lit (dat_cons hC (dat_tup (dat_cons hC dat_int (dat_cons hC dat_str dat_nil)) (by first | exact Nat.le_of_ble_eq_true rfl | (refine len_line ?_; simp only [List.length_append, List.length_cons, List.length_nil]; skip; omega))) (dat_cons hC dat_dic (dat_cons hC (dat_tup (dat_cons hC dat_str (dat_cons hC dat_non dat_nil)) (by first | exact Nat.le_of_ble_eq_true rfl | (refine len_line ?_; simp only [List.length_append, List.length_cons, List.length_nil]; skip; omega))) (dat_cons hC (dat_tup (dat_cons hC dat_str (dat_cons hC dat_bl dat_nil)) (by first | exact Nat.le_of_ble_eq_true rfl | (refine len_line ?_; simp only [List.length_append, List.length_cons, List.length_nil]; skip; omega))) (dat_cons hC (dat_tup (dat_cons hC dat_str (dat_cons hC dat_str dat_nil)) (by first | exact Nat.le_of_ble_eq_true rfl | (refine len_line ?_; simp only [List.length_append, List.length_cons, List.length_nil]; skip; omega))) (dat_cons hC (dat_tup (dat_cons hC dat_str (dat_cons hC dat_int (dat_cons hC dat_int dat_nil))) (by first | exact Nat.le_of_ble_eq_true rfl | (refine len_line ?_; simp only [List.length_append, List.length_cons, List.length_nil]; skip; omega))) (dat_cons hC (dat_lst (lst_lit (dat_cons hC dat_str (dat_cons hC dat_int dat_nil)) (by first | exact Nat.le_of_ble_eq_true rfl | (refine len_line ?_; simp only [List.length_append, List.length_cons, List.length_nil]; skip; omega)))) dat_nil))))))) (by first | exact Nat.le_of_ble_eq_true rfl | (refine len_line ?_; simp only [List.length_append, List.length_cons, List.length_nil]; skip; omega)))))
  (pss_cons (ps_set (i := 0) sc__law_odd_stages.nd rfl (Or.inl rfl) (pe_op op_cat (pv 0) (lst_lit (dat_cons hC (dat_tup (dat_cons hC dat_str (dat_cons hC dat_int (dat_cons hC dat_int dat_nil))) (by first | exact Nat.le_of_ble_eq_true rfl | (refine len_line ?_; simp only [List.length_append, List.length_cons, List.length_nil]; skip; omega))) (dat_cons hC (dat_tup (dat_cons hC dat_str (dat_cons hC dat_neg (dat_cons hC dat_int dat_nil))) (by first | exact Nat.le_of_ble_eq_true rfl | (refine len_line ?_; simp only [List.length_append, List.length_cons, List.length_nil]; skip; omega))) (dat_cons hC (dat_tup (dat_cons hC dat_str (dat_cons hC dat_int (dat_cons hC dat_bl dat_nil))) (by first | exact Nat.le_of_ble_eq_true rfl | (refine len_line ?_; simp only [List.length_append, List.length_cons, List.length_nil]; skip; omega))) (dat_cons hC (dat_tup (dat_cons hC dat_str (dat_cons hC dat_bl (dat_cons hC dat_int dat_nil))) (by first | exact Nat.le_of_ble_eq_true rfl | (refine len_line ?_; simp only [List.length_append, List.length_cons, List.length_nil]; skip; omega))) (dat_cons hC (dat_tup (dat_cons hC dat_str (dat_cons hC dat_non (dat_cons hC dat_int dat_nil))) (by first | exact Nat.le_of_ble_eq_true rfl | (refine len_line ?_; simp only [List.length_append, List.length_cons, List.length_nil]; skip; omega))) dat_nil))))) (by first | exact Nat.le_of_ble_eq_true rfl | (refine len_line ?_; simp only [List.length_append, List.length_cons, List.length_nil]; skip; omega)))))
  (pss_cons (ps_set (i := 0) sc__law_odd_stages.nd rfl (Or.inl rfl) (pe_op op_cat (pv 0) (lst_lit (dat_cons hC (dat_tup (dat_cons hC dat_str (dat_cons hC dat_int (dat_cons hC dat_non dat_nil))) (by first | exact Nat.le_of_ble_eq_true rfl | (refine len_line ?_; simp only [List.length_append, List.length_cons, List.length_nil]; skip; omega))) (dat_cons hC (dat_lst (lst_lit (dat_cons hC dat_str (dat_cons hC dat_int (dat_cons hC dat_int dat_nil))) (by first | exact Nat.le_of_ble_eq_true rfl | (refine len_line ?_; simp only [List.length_append, List.length_cons, List.length_nil]; skip; omega)))) (dat_cons hC (dat_tup (dat_cons hC dat_str (dat_cons hC (dat_tup (dat_cons hC dat_int (dat_cons hC dat_int dat_nil)) (by first | exact Nat.le_of_ble_eq_true rfl | (refine len_line ?_; simp only [List.length_append, List.length_cons, List.length_nil]; skip; omega))) dat_nil)) (by first | exact Nat.le_of_ble_eq_true rfl | (refine len_line ?_; simp only [List.length_append, List.length_cons, List.length_nil]; skip; omega))) dat_nil))) (by first | exact Nat.le_of_ble_eq_true rfl | (refine len_line ?_; simp only [List.length_append, List.length_cons, List.length_nil]; skip; omega)))))
  (pss_one (ps_ret (pe_op op_cat (pv 0) (lst_lit (dat_cons hC (dat_tup (dat_cons hC dat_str (dat_cons hC dat_int (dat_cons hC dat_int (dat_cons hC dat_int dat_nil)))) (by first | exact Nat.le_of_ble_eq_true rfl | (refine len_line ?_; simp only [List.length_append, List.length_cons, List.length_nil]; skip; omega))) (dat_cons hC (dat_tup (dat_cons hC dat_str (dat_cons hC dat_int dat_nil)) (by first | exact Nat.le_of_ble_eq_true rfl | (refine len_line ?_; simp only [List.length_append, List.length_cons, List.length_nil]; skip; omega))) (dat_cons hC (dat_tup (dat_cons hC dat_str (dat_cons hC dat_int dat_nil)) (by first | exact Nat.le_of_ble_eq_true rfl | (refine len_line ?_; simp only [List.length_append, List.length_cons, List.length_nil]; skip; omega))) (dat_cons hC (dat_tup (dat_cons hC dat_non (dat_cons hC dat_int dat_nil)) (by first | exact Nat.le_of_ble_eq_true rfl | (refine len_line ?_; simp only [List.length_append, List.length_cons, List.length_nil]; skip; omega))) (dat_cons hC (dat_tup (dat_cons hC dat_bl (dat_cons hC dat_int dat_nil)) (by first | exact Nat.le_of_ble_eq_true rfl | (refine len_line ?_; simp only [List.length_append, List.length_cons, List.length_nil]; skip; omega))) (dat_cons hC (dat_tup (dat_cons hC (dat_tup (dat_cons hC dat_str dat_nil) (by first | exact Nat.le_of_ble_eq_true rfl | (refine len_line ?_; simp only [List.length_append, List.length_cons, List.length_nil]; skip; omega))) (dat_cons hC dat_int dat_nil)) (by first | exact Nat.le_of_ble_eq_true rfl | (refine len_line ?_; simp only [List.length_append, List.length_cons, List.length_nil]; skip; omega))) dat_nil)))))) (by first | exact Nat.le_of_ble_eq_true rfl | (refine len_line ?_; simp only [List.length_append, List.length_cons, List.length_nil]; skip; omega))))))))))), ?_⟩
    refine go_seq (go_asg (go_datL trivial fun H1 l1 xs1 e1 hl1 hd1 => ?_))
    walk_at "rd"
    refine go_datL trivial fun H2 l2 xs2 e2 hl2 hd2 => ?_
    refine go_cat (e2 _ _ hl1) hl2 (by rw [hd1.len, hd2.len]; exact Nat.le_of_ble_eq_true rfl) fun l3 n3 => ?_
    have x3 := Ex.new (o := HO.lst (xs1 ++ xs2)) n3
    have hd3 := ((hd1.ex e2).app hd2).ex x3
    walk_at "rd"
    refine go_datL trivial fun H4 l4 xs4 e4 hl4 hd4 => ?_
    refine go_cat (e4 _ _ upd_same) hl4 (by rw [List.length_append, hd1.len, hd2.len, hd4.len]; exact Nat.le_of_ble_eq_true rfl) fun l5 n5 => ?_
    have x5 := Ex.new (o := HO.lst (xs1 ++ xs2 ++ xs4)) n5
    have hd5 := ((hd3.ex e4).app hd4).ex x5
    walk_at "rd"
    refine go_datL trivial fun H6 l6 xs6 e6 hl6 hd6 => ?_
    refine go_cat (e6 _ _ upd_same) hl6 (by rw [List.length_append, List.length_append, hd1.len, hd2.len, hd4.len, hd6.len]; exact Nat.le_of_ble_eq_true rfl) fun l7 n7 => ?_
    have x7 := Ex.new (o := HO.lst (xs1 ++ xs2 ++ xs4 ++ xs6)) n7
    have hd7 := ((hd5.ex e6).app hd6).ex x7
    walk_at "rd"
    refine go_datL trivial fun H8 l8 xs8 e8 hl8 hd8 => ?_
    refine go_cat (e8 _ _ upd_same) hl8 (by rw [List.length_append, List.length_append, List.length_append, hd1.len, hd2.len, hd4.len, hd6.len, hd8.len]; exact Nat.le_of_ble_eq_true rfl) fun l9 n9 => ?_
    have x9 := Ex.new (o := HO.lst (xs1 ++ xs2 ++ xs4 ++ xs6 ++ xs8)) n9
    have hd9 := ((hd7.ex e8).app hd8).ex x9
    walk_at "rd"
    refine go_datL trivial fun H10 l10 xs10 e10 hl10 hd10 => ?_
    refine go_cat (e10 _ _ upd_same) hl10 (by rw [List.length_append, List.length_append, List.length_append, List.length_append, hd1.len, hd2.len, hd4.len, hd6.len, hd8.len, hd10.len]; exact Nat.le_of_ble_eq_true rfl) fun l11 n11 => ?_
    have x11 := Ex.new (o := HO.lst (xs1 ++ xs2 ++ xs4 ++ xs6 ++ xs8 ++ xs10)) n11
    have hd11 := ((hd9.ex e10).app hd10).ex x11
    exact k l11 _ _ _ (((((((((((e1.trans e2).trans x3).trans e4).trans x5).trans e6).trans x7).trans e8).trans x9).trans e10).trans x11)) upd_same hd11 (fine_dec (by decide +kernel)) (Nat.le_of_ble_eq_true rfl)
end
end Kx

set_option Elab.async false
set_option linter.all false
set_option maxRecDepth 100000
set_option maxHeartbeats 4000000

namespace Kx
open PySem PySem.Spec PyProof.Rows L2 HX
open Evl (Ex)
local macro_rules | `(tactic| walk_at "side") => `(tactic| first | assumption | ((try dsimp only); first | assumption | decide +kernel | omega | exact ⟨by decide, by decide⟩ | (left; decide) | (left; omega) | (refine Or.inl ⟨?_, ?_⟩ <;> omega) | (refine Or.inr ⟨?_, ?_⟩ <;> omega)))
local macro_rules | `(tactic| walk_at "heap") => `(tactic| first | assumption | exact upd_same | exact Or.inl (by assumption) | exact Or.inl upd_same)
local macro_rules | `(tactic| walk_at "item") => `(tactic| first | exact rfl | exact atI_nat (j := 0) rfl | exact atI_nat (j := 1) rfl | exact atI_nat (j := 2) rfl | assumption)
local macro_rules | `(tactic| walk_at "rd") => `(tactic| repeat (first
  | ((with_reducible refine' go_var ?hv ?_); (case hv => exact rfl))
  | with_reducible refine' go_c ?_
  | with_reducible refine' go_op ?_
  | with_reducible refine' go_seq ?_
  | with_reducible refine' go_asg ?_
  | with_reducible refine' go_name ?_
  | with_reducible refine' go_cons ?_
  | with_reducible refine' go_nil ?_
  | with_reducible refine' go_cb ?_
  | with_reducible refine' go_call ?_
  | with_reducible refine' go_ifS ?_
  | with_reducible refine' go_test ?_
  | with_reducible refine' go_bl ?_
  | with_reducible refine' go_ret ?_
  | with_reducible refine' go_I0 ?_
  | ((with_reducible refine' go_I ?cc ?_); (case cc => walk_at "side"))
  | ((with_reducible refine' go_ixL ?hh ?hk ?_); (case hh => walk_at "heap"); (case hk => walk_at "item"))
  | ((with_reducible refine' go_ixT ?hh ?hk ?_); (case hh => walk_at "heap"); (case hk => walk_at "item"))
  | ((with_reducible refine' go_lenL ?hh ?_); (case hh => walk_at "heap"))
  | ((with_reducible refine' go_lenT ?hh ?_); (case hh => walk_at "heap"))
  | ((with_reducible refine' go_setL ?hh ?hk ?_); (case hh => walk_at "heap"); (case hk => walk_at "item"))
  | with_reducible refine' go_abs ?_
  | with_reducible refine' go_max ?_
  | with_reducible refine' go_min ?_
  | with_reducible refine' go_int ?_
  | with_reducible refine' go_intB ?_
  | (with_reducible refine' go_eq rfl ?_)
  | (with_reducible refine' go_ne rfl ?_)
  | with_reducible refine' go_isN ?_
  | with_reducible refine' go_notN ?_
  | with_reducible refine' go_if ?_
  | with_reducible refine' go_sub ?_
  | with_reducible refine' go_par ?_
  | with_reducible refine' go_sl ?_
  | with_reducible refine' go_part ?_
  | with_reducible refine' go_pint ?_
  | with_reducible refine' go_nopart ?_
  | ((with_reducible refine' go_lenL ?hh ?_); (case hh => walk_at "heap"))
  | ((with_reducible refine' go_lenT ?hh ?_); (case hh => walk_at "heap"))
  | ((with_reducible refine' go_lenS ?hh ?_); (case hh => assumption))
  | with_reducible refine' go_gcons ?_
  | with_reducible refine' go_gnil ?_
  | with_reducible refine' go_kw ?_
  | with_reducible refine' go_par2 ?_
  | with_reducible refine' go_next ?_
  | with_reducible refine' go_drop ?_
  | with_reducible refine' go_and ?_
  | with_reducible refine' go_or ?_
  | with_reducible refine' go_not ?_
  | with_reducible refine' go_B ?_
  | with_reducible refine' go_andV ?_
  | with_reducible refine' go_orV ?_
  | with_reducible refine' go_notV ?_
  | with_reducible refine' go_chain ?_
  | with_reducible refine' go_un ?_
  | with_reducible refine' go_U ?_
  | with_reducible refine' go_bm ?_
  | with_reducible refine' go_tup ?_
  | with_reducible refine' go_lst ?_
  | with_reducible refine' go_forR1 ?_
  | with_reducible refine' go_forR2 ?_
  | with_reducible refine' go_forL ?_
  | with_reducible refine' go_forT ?_
  | with_reducible refine' go_forE ?_
  | with_reducible refine' go_lcR1 ?_
  | with_reducible refine' go_lcL ?_
  | with_reducible refine' go_lcT ?_
  | ((with_reducible refine' go_tyL ?hh ?_); (case hh => walk_at "heap"))
  | ((with_reducible refine' go_new ?hz ?_); (case hz => exact Nat.le_of_ble_eq_true rfl))
  | (with_reducible refine' ⟨_, rfl, ?_⟩)
  ))
--MACEND
theorem go_forD {g : TG} {tb : TS} {D : Ends} {K : PySem.W.Frag} {tl : TE} {σ : L2.St} {H : Hp} (h : tl σ H fun x H1 => ∃ a, x = .ref a ∧ (∃ xs, SqL K H1 a xs) ∧ forL K a g tb D σ H1) : tFor (iList K tl) g tb D σ H := h
theorem go_yes {σ : L2.St} {H : Hp} {QT : Bool → Hp → Prop} (h : QT true H) : tYes σ H QT := h
def CR (sd : List PyData) (r : PyData) : L2.St → Hp → Prop := fun σ H => (∃ v, σ[1]? = some (some v) ∧ Dq H v (.list sd)) ∧ (∃ v, σ[2]? = some (some v) ∧ Dq H v r)
def CT (sd : List PyData) (r : PyData) : L2.St → Hp → Prop := fun σ H => CR sd r σ H ∧ ∃ v d, σ[4]? = some (some v) ∧ Dq H v d ∧ Fine 1900 3 d
theorem clR (sd : List PyData) (r : PyData) : Cl (CR sd r) := fun σ H H' e ⟨⟨v, h1, h2⟩, ⟨u, h3, h4⟩⟩ => ⟨⟨v, h1, h2.ex e⟩, ⟨u, h3, h4.ex e⟩⟩
theorem clT (sd : List PyData) (r : PyData) : Cl (CT sd r) := fun σ H H' e ⟨h, ⟨v, d, h1, h2, h3⟩⟩ => ⟨clR sd r σ H H' e h, ⟨v, d, h1, h2.ex e, h3⟩⟩
/-- the list that grows: slot 3 -/
def S3 : L2.St → List Addr := fun σ => match σ[3]? with | some (some (V.ref l)) => [l] | _ => []
def S0 : L2.St → List Addr := fun _ => []
structure Okd (sd : List PyData) (r : PyData) : Prop where
  len : sd.length ≤ 8
  it : ∀ d ∈ sd, Fine 1900 1 d
  rt : Fine 600 0 r
theorem tupF {l : List PyData} (h : ∀ x ∈ l, Fine 26000 9 x) (hn : l.length ≤ 3) : Fine 78100 10 (.tuple l) := (Fine.tuple h).mono (Nat.le_trans (Nat.mul_le_mul_right _ hn) (by decide)) (by decide)
theorem lstF {l : List PyData} (h : ∀ x ∈ l, Fine 26000 9 x) (hn : l.length ≤ 3) : Fine 78100 10 (.list l) := (Fine.list h).mono (Nat.le_trans (Nat.mul_le_mul_right _ hn) (by decide)) (by decide)
theorem tup1 {a : PyData} (ha : Fine 26000 9 a) : Fine 78100 10 (.tuple [a]) := tupF (fun x hx => by rw [List.mem_singleton.mp hx]; exact ha) (Nat.le_of_ble_eq_true rfl)
theorem tup2 {a b : PyData} (ha : Fine 26000 9 a) (hb : Fine 26000 9 b) : Fine 78100 10 (.tuple [a, b]) := tupF (two (l := []) ha hb) (Nat.le_of_ble_eq_true rfl)
theorem lst2 {a b : PyData} (ha : Fine 26000 9 a) (hb : Fine 26000 9 b) : Fine 78100 10 (.list [a, b]) := lstF (two (l := []) ha hb) (Nat.le_of_ble_eq_true rfl)
theorem tup3 {a b c : PyData} (ha : Fine 26000 9 a) (hb : Fine 26000 9 b) (hc : Fine 26000 9 c) : Fine 78100 10 (.tuple [a, b, c]) := tupF (fun x hx => by
  rcases List.mem_cons.mp hx with rfl | hx
  · exact ha
  · exact two (l := []) hb hc x hx) (Nat.le_of_ble_eq_true rfl)
theorem all_nil {R : PyData → Prop} : ∀ d ∈ ([] : List PyData), R d := fun _ h => nomatch h
theorem all_cons {R : PyData → Prop} {d : PyData} {ds : List PyData} (h : R d) (k : ∀ x ∈ ds, R x) : ∀ x ∈ d :: ds, R x := fun x hx => by
  rcases List.mem_cons.mp hx with rfl | hx
  · exact h
  · exact k x hx
theorem all_app {R : PyData → Prop} {ds es : List PyData} (h : ∀ x ∈ ds, R x) (k : ∀ x ∈ es, R x) : ∀ x ∈ ds ++ es, R x := fun x hx => by
  rcases List.mem_append.mp hx with hx | hx
  · exact h x hx
  · exact k x hx
theorem pack {G : Hp} {xs : List V} {ds : List PyData} (h : DqAll G xs ds) (n : ds.length ≤ 40) (f : ∀ d ∈ ds, Fine 78100 10 d) : ∃ ds : List PyData, DqAll G xs ds ∧ ds.length ≤ 40 ∧ ∀ d ∈ ds, Fine 78100 10 d := ⟨ds, h, n, f⟩
theorem fine1 {w k : Nat} {d : PyData} (h : (d.showable && d.leavesShort 200 && decide (d.weight ≤ w) && decide (d.depth ≤ k)) = true) : Fine w k d := fine_dec (l := [d]) (by simpa using h) d List.mem_cons_self
theorem jx_hid {D : Addr} {H G : Hp} (e : Jx [D] H G) (h : H D = none) : Ex H (hid [D] G) := fun b o q => by
  have hb : b ∉ [D] := nin1 fun z => by rw [z, h] at q; cases q
  exact e b o (by rw [hid_ne hb]; exact q)
def spOddR : Sp := fun vs H Q _ => ∃ (x : V) (sd : List PyData) (r : PyData), vs = [x] ∧ Dq H x (.tuple [.list sd, r]) ∧ Okd sd r ∧
  ∀ (p : Addr) (H' : Hp) (xs : List V) (ds : List PyData), Ex H H' → H' p = some (.lst xs) → DqAll H' xs ds → (∀ d ∈ ds, Fine 78100 10 d) → Q (.ref p) H'
section
variable {P : Program} {w : World} {K : PySem.W.Frag} {mg : Str → Option Value} {base : Heap}
abbrev s__law_odd_radios : Stmt := top 33
theorem sc__law_odd_radios : FnScope ["radio", "stages", "rate_here", "found", "thing"] ["radio"] (defScope s__law_odd_radios) := ⟨rfl, rfl, rfl, by decide +kernel, rfl, by decide +kernel, by decide +kernel⟩
theorem ok_odd_radios {f : Addr} {fd : FuncData} (F : Fun K "_law_odd_radios" "_law_odd_radios" s__law_odd_radios f fd) (m_tuple : mg "tuple" = none) (h__law_odd_stages : Has P w K mg base 1 "_law_odd_stages" spOddS) :
    FnOk P w K mg base CX0 2 f fd ["radio"] spOddR := by
  refine F.ok sc__law_odd_radios (fun vs H Q E h => ?_) (fun cdv A outer s H vs Q E hr h => ?_)
  · obtain ⟨x, sd, r, rfl, _⟩ := h
    rfl
  · obtain ⟨x, sd, r, rfl, hx, ok, k⟩ := h
    have hC := clR sd r
    have hC2 := clT sd r
    have hv_stages : ∀ (σ : L2.St) (H : Hp), CR sd r σ H → ∃ v, σ[1]? = some (some v) ∧ Dq H v (.list sd) := fun σ H h => h.1
    have hv_rate_here : ∀ (σ : L2.St) (H : Hp), CR sd r σ H → ∃ v, σ[2]? = some (some v) ∧ Dq H v r := fun σ H h => h.2
    have hw_stages : ∀ (σ : L2.St) (H : Hp) (Q : VK), CR sd r σ H → (∀ a xs, Rd H a (.lst xs) → DqAll H xs sd → Q (.ref a) H) → tVar 1 σ H Q := fun σ H Q h q => by
      obtain ⟨⟨v, h1, h2⟩, _⟩ := h
      obtain ⟨a, xs, rfl, ha, hd⟩ := h2.listAt
      exact ⟨_, h1, q a xs ha hd⟩
    have hv2_thing : ∀ (σ : L2.St) (H : Hp), CT sd r σ H → ∃ v d, σ[4]? = some (some v) ∧ Dq H v d ∧ Fine 1900 3 d := fun σ H h => h.2
    have hv2_rate : ∀ (σ : L2.St) (H : Hp), CT sd r σ H → ∃ v d, σ[2]? = some (some v) ∧ Dq H v d ∧ Fine 33000 4 d := fun σ H h => by
      obtain ⟨v, h1, h2⟩ := h.1.2
      exact ⟨v, r, h1, h2, ok.rt.mono (by decide) (by decide)⟩
    have hw2 : ∀ (S : L2.St → List Addr) (σ : L2.St) (H : Hp) (Q : VK), CT sd r σ (hid (S σ) H) → (∀ a xs ds, Rd H a (.lst xs) → DqAll (hid (S σ) H) xs ds → ds.length ≤ 8 → (∀ d ∈ ds, Fine 1900 3 d) → Q (.ref a) H) → tVar 1 σ H Q := fun S σ H Q h q => by
      obtain ⟨⟨v, h1, h2⟩, _⟩ := h.1
      obtain ⟨a, xs, rfl, ha, hd⟩ := h2.listAt
      exact ⟨_, h1, q a xs sd (Evl.ex_rd hid_ex ha) hd ok.len fun d hd => (ok.it d hd).mono (by decide) (by decide)⟩
    have hw2_S0 := hw2 S0
    have hw2_S3 := hw2 S3
    refine ⟨_, (pss_cons (ps_asg (pv 0) (pg_tup (by rfl) (pgs_cons (pg_name (i := 1) sc__law_odd_radios.nd rfl (Or.inr rfl)) (pgs_cons (pg_name (i := 2) sc__law_odd_radios.nd rfl (Or.inl rfl)) pgs_nil))))
  (pss_cons (ps_set (i := 3) sc__law_odd_radios.nd rfl (Or.inl rfl) (lst_lit (dat_cons hC dat_non (dat_cons hC dat_int (dat_cons hC dat_str (dat_cons hC (dat_tup dat_nil (by first | exact Nat.le_of_ble_eq_true rfl | (refine len_line ?_; simp only [List.length_append, List.length_cons, List.length_nil]; skip; omega))) (dat_cons hC (dat_tup (dat_cons hC (dat_var (pv 1) hv_stages) dat_nil) (by first | exact Nat.le_of_ble_eq_true rfl | (refine len_line ?_; simp only [List.length_append, List.length_cons, List.length_nil]; skip; omega))) (dat_cons hC (dat_tup (dat_cons hC (dat_var (pv 1) hv_stages) (dat_cons hC dat_int (dat_cons hC dat_int dat_nil))) (by first | exact Nat.le_of_ble_eq_true rfl | (refine len_line ?_; simp only [List.length_append, List.length_cons, List.length_nil]; skip; omega))) (dat_cons hC (dat_lst (lst_lit (dat_cons hC (dat_var (pv 1) hv_stages) (dat_cons hC dat_int dat_nil)) (by first | exact Nat.le_of_ble_eq_true rfl | (refine len_line ?_; simp only [List.length_append, List.length_cons, List.length_nil]; skip; omega)))) (dat_cons hC (dat_tup (dat_cons hC (dat_tupOf rfl m_tuple (pv 1) hw_stages) (dat_cons hC dat_int dat_nil)) (by first | exact Nat.le_of_ble_eq_true rfl | (refine len_line ?_; simp only [List.length_append, List.length_cons, List.length_nil]; skip; omega))) (dat_cons hC (dat_tup (dat_cons hC dat_non (dat_cons hC dat_int dat_nil)) (by first | exact Nat.le_of_ble_eq_true rfl | (refine len_line ?_; simp only [List.length_append, List.length_cons, List.length_nil]; skip; omega))) (dat_cons hC (dat_tup (dat_cons hC (dat_lst (lst_lit dat_nil (by first | exact Nat.le_of_ble_eq_true rfl | (refine len_line ?_; simp only [List.length_append, List.length_cons, List.length_nil]; skip; omega)))) (dat_cons hC dat_int dat_nil)) (by first | exact Nat.le_of_ble_eq_true rfl | (refine len_line ?_; simp only [List.length_append, List.length_cons, List.length_nil]; skip; omega))) dat_nil)))))))))) (by first | exact Nat.le_of_ble_eq_true rfl | (refine len_line ?_; simp only [List.length_append, List.length_cons, List.length_nil]; skip; omega))))
  (pss_cons (ps_set (i := 3) sc__law_odd_radios.nd rfl (Or.inl rfl) (pe_op op_cat (pv 3) (lst_lit (dat_cons hC dat_dic (dat_cons hC (dat_var (pv 1) hv_stages) (dat_cons hC (dat_tup (dat_cons hC (dat_lst (lst_rep (k := 8) rfl (lst_lit (dat_cons hC (dat_tup (dat_cons hC dat_str (dat_cons hC dat_int dat_nil)) (by first | exact Nat.le_of_ble_eq_true rfl | (refine len_line ?_; simp only [List.length_append, List.length_cons, List.length_nil]; skip; omega))) dat_nil) (by first | exact Nat.le_of_ble_eq_true rfl | (refine len_line ?_; simp only [List.length_append, List.length_cons, List.length_nil]; skip; omega))) (by decide) (by first | exact Nat.le_of_ble_eq_true rfl | (refine len_line ?_; simp only [List.length_append, List.length_cons, List.length_nil]; skip; omega)))) (dat_cons hC dat_int dat_nil)) (by first | exact Nat.le_of_ble_eq_true rfl | (refine len_line ?_; simp only [List.length_append, List.length_cons, List.length_nil]; skip; omega))) (dat_cons hC (dat_tup (dat_cons hC (dat_lst (lst_rep (k := 9) rfl (lst_lit (dat_cons hC (dat_tup (dat_cons hC dat_str (dat_cons hC dat_int dat_nil)) (by first | exact Nat.le_of_ble_eq_true rfl | (refine len_line ?_; simp only [List.length_append, List.length_cons, List.length_nil]; skip; omega))) dat_nil) (by first | exact Nat.le_of_ble_eq_true rfl | (refine len_line ?_; simp only [List.length_append, List.length_cons, List.length_nil]; skip; omega))) (by decide) (by first | exact Nat.le_of_ble_eq_true rfl | (refine len_line ?_; simp only [List.length_append, List.length_cons, List.length_nil]; skip; omega)))) (dat_cons hC dat_int dat_nil)) (by first | exact Nat.le_of_ble_eq_true rfl | (refine len_line ?_; simp only [List.length_append, List.length_cons, List.length_nil]; skip; omega))) (dat_cons hC (dat_tup (dat_cons hC (dat_lst (lst_rep (k := 9) rfl (lst_lit (dat_cons hC dat_non dat_nil) (by first | exact Nat.le_of_ble_eq_true rfl | (refine len_line ?_; simp only [List.length_append, List.length_cons, List.length_nil]; skip; omega))) (by decide) (by first | exact Nat.le_of_ble_eq_true rfl | (refine len_line ?_; simp only [List.length_append, List.length_cons, List.length_nil]; skip; omega)))) (dat_cons hC dat_int dat_nil)) (by first | exact Nat.le_of_ble_eq_true rfl | (refine len_line ?_; simp only [List.length_append, List.length_cons, List.length_nil]; skip; omega))) dat_nil))))) (by first | exact Nat.le_of_ble_eq_true rfl | (refine len_line ?_; simp only [List.length_append, List.length_cons, List.length_nil]; skip; omega)))))
  (pss_cons (ps_set (i := 3) sc__law_odd_radios.nd rfl (Or.inl rfl) (pe_op op_cat (pv 3) (lst_lit (dat_cons hC (dat_tup (dat_cons hC (dat_lst (lst_rep (k := 200) rfl (lst_lit (dat_cons hC (dat_tup (dat_cons hC dat_str (dat_cons hC dat_int dat_nil)) (by first | exact Nat.le_of_ble_eq_true rfl | (refine len_line ?_; simp only [List.length_append, List.length_cons, List.length_nil]; skip; omega))) dat_nil) (by first | exact Nat.le_of_ble_eq_true rfl | (refine len_line ?_; simp only [List.length_append, List.length_cons, List.length_nil]; skip; omega))) (by decide) (by first | exact Nat.le_of_ble_eq_true rfl | (refine len_line ?_; simp only [List.length_append, List.length_cons, List.length_nil]; skip; omega)))) (dat_cons hC dat_int dat_nil)) (by first | exact Nat.le_of_ble_eq_true rfl | (refine len_line ?_; simp only [List.length_append, List.length_cons, List.length_nil]; skip; omega))) (dat_cons hC (dat_tup (dat_cons hC (dat_lst (lst_rep (k := 200) rfl (lst_lit (dat_cons hC dat_non dat_nil) (by first | exact Nat.le_of_ble_eq_true rfl | (refine len_line ?_; simp only [List.length_append, List.length_cons, List.length_nil]; skip; omega))) (by decide) (by first | exact Nat.le_of_ble_eq_true rfl | (refine len_line ?_; simp only [List.length_append, List.length_cons, List.length_nil]; skip; omega)))) (dat_cons hC dat_non dat_nil)) (by first | exact Nat.le_of_ble_eq_true rfl | (refine len_line ?_; simp only [List.length_append, List.length_cons, List.length_nil]; skip; omega))) dat_nil)) (by first | exact Nat.le_of_ble_eq_true rfl | (refine len_line ?_; simp only [List.length_append, List.length_cons, List.length_nil]; skip; omega)))))
  (pss_cons (ps_set (i := 3) sc__law_odd_radios.nd rfl (Or.inl rfl) (pe_op op_cat (pv 3) (lst_lit (dat_cons hC (dat_tup (dat_cons hC dat_non (dat_cons hC dat_non dat_nil)) (by first | exact Nat.le_of_ble_eq_true rfl | (refine len_line ?_; simp only [List.length_append, List.length_cons, List.length_nil]; skip; omega))) (dat_cons hC (dat_tup (dat_cons hC dat_str (dat_cons hC dat_non dat_nil)) (by first | exact Nat.le_of_ble_eq_true rfl | (refine len_line ?_; simp only [List.length_append, List.length_cons, List.length_nil]; skip; omega))) dat_nil)) (by first | exact Nat.le_of_ble_eq_true rfl | (refine len_line ?_; simp only [List.length_append, List.length_cons, List.length_nil]; skip; omega)))))
  (pss_cons (ps_set (i := 3) sc__law_odd_radios.nd rfl (Or.inl rfl) (pe_op op_cat (pv 3) (pe_lc (own := [("thing", 4)]) (g := gName 4) (by rfl) (sc__law_odd_radios).nd (pi_tup (dat_tup (dat_cons hC dat_int (dat_cons hC dat_int (dat_cons hC dat_neg (dat_cons hC dat_bl (dat_cons hC dat_str (dat_cons hC (dat_tup (dat_cons hC dat_int dat_nil) (by first | exact Nat.le_of_ble_eq_true rfl | (refine len_line ?_; simp only [List.length_append, List.length_cons, List.length_nil]; skip; omega))) (dat_cons hC (dat_lst (lst_lit (dat_cons hC dat_int dat_nil) (by first | exact Nat.le_of_ble_eq_true rfl | (refine len_line ?_; simp only [List.length_append, List.length_cons, List.length_nil]; skip; omega)))) (dat_cons hC dat_int (dat_cons hC (dat_pow (wide_pow (b := 4) (by decide) (by decide) (by decide))) (dat_cons hC dat_non (dat_cons hC dat_dic dat_nil))))))))))) (by first | exact Nat.le_of_ble_eq_true rfl | (refine len_line ?_; simp only [List.length_append, List.length_cons, List.length_nil]; skip; omega)))) (blkOk_by (own := [("thing", 4)]) (N := ["radio", "stages", "rate_here", "found", "thing"]) (sc := defScope s__law_odd_radios) (by decide +kernel)) (fun _ _ _ _ _ => pg_name (i := 4) (sc__law_odd_radios).nd rfl (Or.inl rfl)) (fun _ _ _ _ _ => pts_nil) (fun _ _ _ _ _ => (pe_tup (pa_cons (pv 1) (pa_cons (pv 4) pa_nil)))))))
  (pss_cons (ps_set (i := 3) sc__law_odd_radios.nd rfl (Or.inl rfl) (pe_op op_cat (pv 3) (lst_lit (dat_cons hC (dat_tup (dat_cons hC (dat_lst (lst_lit (dat_cons hC (dat_tup (dat_cons hC dat_str (dat_cons hC dat_int dat_nil)) (by first | exact Nat.le_of_ble_eq_true rfl | (refine len_line ?_; simp only [List.length_append, List.length_cons, List.length_nil]; skip; omega))) (dat_cons hC (dat_tup (dat_cons hC dat_str (dat_cons hC dat_int dat_nil)) (by first | exact Nat.le_of_ble_eq_true rfl | (refine len_line ?_; simp only [List.length_append, List.length_cons, List.length_nil]; skip; omega))) dat_nil)) (by first | exact Nat.le_of_ble_eq_true rfl | (refine len_line ?_; simp only [List.length_append, List.length_cons, List.length_nil]; skip; omega)))) (dat_cons hC dat_int dat_nil)) (by first | exact Nat.le_of_ble_eq_true rfl | (refine len_line ?_; simp only [List.length_append, List.length_cons, List.length_nil]; skip; omega))) (dat_cons hC (dat_tup (dat_cons hC (dat_lst (lst_lit (dat_cons hC (dat_tup (dat_cons hC dat_str (dat_cons hC dat_int dat_nil)) (by first | exact Nat.le_of_ble_eq_true rfl | (refine len_line ?_; simp only [List.length_append, List.length_cons, List.length_nil]; skip; omega))) (dat_cons hC (dat_tup (dat_cons hC dat_str (dat_cons hC dat_int dat_nil)) (by first | exact Nat.le_of_ble_eq_true rfl | (refine len_line ?_; simp only [List.length_append, List.length_cons, List.length_nil]; skip; omega))) (dat_cons hC (dat_tup (dat_cons hC dat_str (dat_cons hC dat_int dat_nil)) (by first | exact Nat.le_of_ble_eq_true rfl | (refine len_line ?_; simp only [List.length_append, List.length_cons, List.length_nil]; skip; omega))) (dat_cons hC dat_non dat_nil)))) (by first | exact Nat.le_of_ble_eq_true rfl | (refine len_line ?_; simp only [List.length_append, List.length_cons, List.length_nil]; skip; omega)))) (dat_cons hC dat_int dat_nil)) (by first | exact Nat.le_of_ble_eq_true rfl | (refine len_line ?_; simp only [List.length_append, List.length_cons, List.length_nil]; skip; omega))) dat_nil)) (by first | exact Nat.le_of_ble_eq_true rfl | (refine len_line ?_; simp only [List.length_append, List.length_cons, List.length_nil]; skip; omega)))))
  (pss_cons (ps_for PassesOwn.never rfl (pi_list (pe_hs0 h__law_odd_stages hr rfl)) (pg_name (i := 4) sc__law_odd_radios.nd rfl (Or.inl rfl))
  (pss_cons (ps_set (i := 3) sc__law_odd_radios.nd rfl (Or.inl rfl) (pe_op op_cat (pv 3) (exl_lit (exs_cons hC2 (ex_weak (S := S0) (R' := Fine 67000 5) (ex_tup (exs_cons hC2 (ex_weak (S := S0) (R' := Fine 33000 4) (ex_lst (exl_lit (exs_cons hC2 (ex_var (pv 4) hv2_thing) exs_nil) (by decide))) (fun _ h => h.mono (by decide) (by decide))) (exs_cons hC2 (ex_var (pv 2) hv2_rate) exs_nil)) (by decide)) (fun _ h => h.mono (by decide) (by decide))) (exs_cons hC2 (ex_weak (S := S0) (R' := Fine 67000 5) (ex_tup (exs_cons hC2 (ex_weak (S := S0) (R' := Fine 33000 4) (ex_lst (exl_cat hC2 (exl_slice (K := K) rfl (pv 1) po_none (po_some pe_int) hw2_S0 (fun _ _ _ h => h) (fun _ _ _ h => ⟨_, rfl, h⟩)) (exl_lit (exs_cons hC2 (ex_var (pv 4) hv2_thing) exs_nil) (by decide)) (by decide))) (fun _ h => h.mono (by decide) (by decide))) (exs_cons hC2 (ex_int ((Fine.int (by decide)).mono (by decide) (by decide))) exs_nil)) (by decide)) (fun _ h => h.mono (by decide) (by decide))) (exs_cons hC2 (ex_weak (S := S0) (R' := Fine 67000 5) (ex_tup (exs_cons hC2 (ex_weak (S := S0) (R' := Fine 33000 4) (ex_lst (exl_lit (exs_cons hC2 (ex_var (pv 4) hv2_thing) (exs_cons hC2 (ex_non (Fine.none.mono (by decide) (by decide))) exs_nil)) (by decide))) (fun _ h => h.mono (by decide) (by decide))) (exs_cons hC2 (ex_var (pv 2) hv2_rate) exs_nil)) (by decide)) (fun _ h => h.mono (by decide) (by decide))) exs_nil))) (by decide))))
  (pss_one (ps_expr (pe_bm PySem.F.plainAttrs_list PySem.F.slot_list_append PySem.F.type_list_append mt_append (pv 3) (pa_cons (ex_weak (S := S3) (R' := Fine 67000 5) (ex_tup (exs_cons hC2 (ex_weak (S := S3) (R' := Fine 33000 4) (ex_lst (exl_cat hC2 (exl_cat hC2 (exl_slice (K := K) rfl (pv 1) po_none (po_some pe_int) hw2_S3 (fun _ _ _ h => h) (fun _ _ _ h => ⟨_, rfl, h⟩)) (exl_lit (exs_cons hC2 (ex_var (pv 4) hv2_thing) exs_nil) (by decide)) (by decide)) (exl_slice (K := K) rfl (pv 1) (po_some pe_int) (po_some pe_int) hw2_S3 (fun _ _ _ h => ⟨_, rfl, h⟩) (fun _ _ _ h => ⟨_, rfl, h⟩)) (by decide))) (fun _ h => h.mono (by decide) (by decide))) (exs_cons hC2 (ex_var (pv 2) hv2_rate) exs_nil)) (by decide)) (fun _ h => h.mono (by decide) (by decide))) pa_nil))))))
  (pss_one (ps_ret (pv 3))))))))))), ?_⟩
    walk_at "rd"
    obtain ⟨a, xs, rfl, ha, hda⟩ := hx.tupleAt
    obtain ⟨v1, v2, d1, d2, rfl, ed, hv1, hv2⟩ := dqa2 hda rfl
    obtain ⟨rfl, rfl⟩ : PyData.list sd = d1 ∧ r = d2 := by simpa using ed
    refine go_gtup (.inl ha) rfl ?_
    walk_at "rd"
    have c : ∀ (G : Hp) (z3 z4 : Option V), Ex H G → CR sd r [some (.ref a), some v1, some v2, z3, z4] G := fun G z3 z4 e => ⟨⟨v1, rfl, hv1.ex e⟩, ⟨v2, rfl, hv2.ex e⟩⟩
    have fl : Fine 15208 2 (.list sd) := (Fine.list ok.it).mono (Nat.le_trans (Nat.mul_le_mul_right _ ok.len) (by decide)) (by decide)
    have ft : Fine 15208 2 (.tuple sd) := (Fine.tuple ok.it).mono (Nat.le_trans (Nat.mul_le_mul_right _ ok.len) (by decide)) (by decide)
    have fl9 : Fine 26000 9 (.list sd) := fl.mono (by decide) (by decide)
    have ft9 : Fine 26000 9 (.tuple sd) := ft.mono (by decide) (by decide)
    refine go_datL (c _ _ _ (Ex.refl _)) fun H1 l1 xs1 e1 hl1 hd1 => ?_
    walk_at "rd"
    refine go_datL (c _ _ _ e1) fun H2 l2 xs2 e2 hl2 hd2 => ?_
    refine go_cat (e2 _ _ hl1) hl2 (by rw [hd1.len, hd2.len]; exact Nat.le_of_ble_eq_true rfl) fun l3 n3 => ?_
    have x3 := Ex.new (o := HO.lst (xs1 ++ xs2)) n3
    have hd3 := ((hd1.ex e2).app hd2).ex x3
    have E3 := (e1.trans e2).trans x3
    walk_at "rd"
    refine go_datL (c _ _ _ E3) fun H4 l4 xs4 e4 hl4 hd4 => ?_
    refine go_cat (e4 _ _ upd_same) hl4 (by rw [hd3.len, hd4.len]; exact Nat.le_of_ble_eq_true rfl) fun l5 n5 => ?_
    have x5 := Ex.new (o := HO.lst (xs1 ++ xs2 ++ xs4)) n5
    have hd5 := ((hd3.ex e4).app hd4).ex x5
    have E5 := (E3.trans e4).trans x5
    walk_at "rd"
    refine go_datL (c _ _ _ E5) fun H6 l6 xs6 e6 hl6 hd6 => ?_
    refine go_cat (e6 _ _ upd_same) hl6 (by rw [hd5.len, hd6.len]; exact Nat.le_of_ble_eq_true rfl) fun l7 n7 => ?_
    have x7 := Ex.new (o := HO.lst (xs1 ++ xs2 ++ xs4 ++ xs6)) n7
    have hd7 := ((hd5.ex e6).app hd6).ex x7
    have E7 := (E5.trans e6).trans x7
    walk_at "rd"
    refine go_dat (c _ _ _ E7) fun H8 u8 e8 hu8 => ?_
    obtain ⟨t8, ys8, rfl, ht8, hy8⟩ := hu8.tupleAt
    refine ⟨t8, rfl, ⟨_, .inl ht8⟩, ?_⟩
    have f8 : ∀ d ∈ ([.int 1, .int 0, .int (-1), .bool true, .str "4", .tuple [.int 4], .list [.int 4], .int 2, .int (10 ^ (39 : Int).toNat), .none, .dict []] : List PyData), Fine 300 3 d := fine_dec (by decide +kernel)
    refine run_lcT ys8 (fun D i G => ∃ (xs : List V) (ds : List PyData), G D = some (.lst xs) ∧ DqAll (hid [D] G) xs ds ∧ ds.length = i ∧ (∀ d ∈ ds, Fine 78100 10 d) ∧ Jx [D] H8 G ∧ H8 D = none) ?_ ?_ ?_ ?_
    · exact fun D hD => ⟨[], [], upd_same, .nil, rfl, (fun _ h => nomatch h), Jx.new hD, hD⟩
    · rintro D i G _ ⟨xs, ds, _, _, _, _, e, nD⟩
      exact .inl (Evl.ex_rd hid_ex (Evl.ex_rd (jx_hid e nD) ht8))
    · rintro D i x G hx ⟨xs, ds, hD, hda, hlen, hfn, e, nD⟩
      obtain ⟨dx, hdx, hqx⟩ := hy8.get hx
      have hi : i < 11 := (List.getElem?_eq_some_iff.mp hdx).1
      have fx := f8 dx (List.mem_of_getElem? hdx)
      have e0 := jx_hid e nD
      walk_at "rd"
      refine ⟨rfl, go_yes (iteT ?_)⟩
      walk_at "rd"
      intro p hp
      have hpD : p ≠ D := fresh_ne hD hp
      have hDp : upd G p (.tup [v1, x]) D = some (.lst xs) := by rw [upd_ne hpD.symm]; exact hD
      have ep : Ex (hid [D] G) (hid [D] (upd G p (.tup [v1, x]))) := Jx.new hp
      refine ⟨xs, hDp, ?_, xs ++ [.ref p], ds ++ [.tuple [.list sd, dx]], upd_same, ?_, by rw [List.length_append, hlen]; rfl, ?_, (e.tr (Jx.new hp)).tr (Jx.upd (by simp)), nD⟩
      · rw [hda.len, hlen]
        exact Nat.lt_of_lt_of_le (by omega : i < 11) (by decide)
      · rw [hid_upd (by simp)]
        refine (hda.ex ep).app (.one (.tup (.inl ?_) (.cons ((hv1.ex (E7.trans e8)).ex (e0.trans ep)) (.cons (hqx.ex (e0.trans ep)) .nil))))
        rw [hid_ne (nin1 hpD)]
        exact upd_same
      · intro d hd
        rcases List.mem_append.mp hd with hd | hd
        · exact hfn d hd
        · rw [List.mem_singleton.mp hd]
          refine tupF (fun z hz => ?_) (Nat.le_of_ble_eq_true rfl)
          rcases List.mem_cons.mp hz with rfl | hz
          · exact fl9
          · rw [List.mem_singleton.mp hz]
            exact fx.mono (by decide) (by decide)
    rintro D G nD ⟨xsC, dsC, hD, hdaC, hlenC, hfnC, eC, _⟩
    have eC' : Ex H8 G := (jx_hid eC nD).trans hid_ex
    have hlenY : ys8.length = 11 := hy8.len
    refine go_cat ((e8.trans eC') _ _ upd_same) hD (by rw [hd7.len, hdaC.len, hlenC, hlenY]; exact Nat.le_of_ble_eq_true rfl) fun l9 n9 => ?_
    have x9 := Ex.new (o := HO.lst (xs1 ++ xs2 ++ xs4 ++ xs6 ++ xsC)) n9
    have hd9 := (((hd7.ex e8).ex eC').app (hdaC.ex hid_ex)).ex x9
    have E9 := ((E7.trans e8).trans eC').trans x9
    walk_at "rd"
    refine go_datL (c _ _ _ E9) fun H10 l10 xs10 e10 hl10 hd10 => ?_
    refine go_cat (e10 _ _ upd_same) hl10 (by rw [hd9.len, hd10.len, List.length_append, hlenC, hlenY]; exact Nat.le_of_ble_eq_true rfl) fun l11 n11 => ?_
    have x11 := Ex.new (o := HO.lst (xs1 ++ xs2 ++ xs4 ++ xs6 ++ xsC ++ xs10)) n11
    have hd11 := ((hd9.ex e10).app hd10).ex x11
    have E11 := (E9.trans e10).trans x11
    have len11 := hd11.len
    obtain ⟨dsA, hdA, hnA, hfA⟩ := pack hd11 (by rw [List.length_append, List.length_append, hlenC, hlenY]; exact Nat.le_of_ble_eq_true rfl) (by
      refine all_app (all_app (all_app (all_app (all_app ?_ ?_) ?_) ?_) hfnC) ?_ <;>
        (repeat' (first | exact all_nil | refine all_cons ?_ ?_)) <;>
        first
        | exact fine1 (by decide +kernel)
        | exact fl.mono (by decide) (by decide)
        | exact tup1 (by first | exact fl9 | exact ft9 | exact fine1 (by decide +kernel))
        | exact tup2 (by first | exact fl9 | exact ft9 | exact fine1 (by decide +kernel)) (by first | exact fl9 | exact ft9 | exact fine1 (by decide +kernel))
        | exact lst2 (by first | exact fl9 | exact ft9 | exact fine1 (by decide +kernel)) (by first | exact fl9 | exact ft9 | exact fine1 (by decide +kernel))
        | exact tup3 (by first | exact fl9 | exact ft9 | exact fine1 (by decide +kernel)) (by first | exact fl9 | exact ft9 | exact fine1 (by decide +kernel)) (by first | exact fl9 | exact ft9 | exact fine1 (by decide +kernel)))
    generalize hxs : xs1 ++ xs2 ++ xs4 ++ xs6 ++ xsC ++ xs10 = xsA at *
    walk_at "rd"
    refine ⟨rfl, fun p12 H12 xsS dsS e12 hp12 hd12 hf12 hn12 => ?_⟩
    refine ⟨p12, rfl, ⟨_, .inl (.inl hp12)⟩, ?_⟩
    have E12 := E11.trans e12
    refine run_forL xsS (fun i σ G => ∃ (lf : Addr) (ys : List V) (es : List PyData) (v4 : Option V), σ = [some (.ref a), some v1, some v2, some (.ref lf), v4] ∧ Ex H12 G ∧ G lf = some (.lst ys) ∧ DqAll G ys es ∧ es.length ≤ 40 + 4 * i ∧ ∀ d ∈ es, Fine 78100 10 d) ?_ ?_ ?_ ?_
    · exact ⟨l11, xsA, dsA, none, rfl, Ex.refl _, e12 _ _ upd_same, hdA.ex e12, hnA, hfA⟩
    · rintro i σ G _ ⟨lf, ys, es, v4, rfl, e, _⟩
      exact .inl (.inl (e _ _ hp12))
    · rintro i x σ G hx ⟨lf, ys, es, v4, rfl, e, hlf, hes, hn, hf⟩
      obtain ⟨dx, hdx, hqx⟩ := hd12.get hx
      have fx : Fine 1900 3 dx := (hf12 dx (List.mem_of_getElem? hdx)).mono (by decide) (by decide)
      have hi : i < 60 := Nat.lt_of_lt_of_le (List.getElem?_eq_some_iff.mp hdx).1 hn12
      have EG := E12.trans e
      have cT : ∀ (S : List Addr) (G' : Hp) (z3 : Option V), Ex G (hid S G') → CT sd r [some (.ref a), some v1, some v2, z3, some x] (hid S G') := fun S G' z3 e' => ⟨c _ _ _ (EG.trans e'), x, dx, rfl, (hqx.ex e).ex e', fx⟩
      walk_at "rd"
      refine go_exL (cT [] G _ (by rw [hid_nil]; exact Ex.refl _)) (fun _ h => nomatch h) fun H13 l13 xs13 ds13 e13 hl13 _ hd13 hn13 hf13 => ?_
      rw [show S0 _ = [] from rfl, hid_nil] at hd13
      refine go_cat (e13 _ _ hlf) hl13 ?_ fun l14 n14 => ?_
      · rw [hes.len, hd13.len]
        exact len_line (by omega)
      have x14 := Ex.new (o := HO.lst (ys ++ xs13)) n14
      have e14 := e13.trans x14
      have hd14 := ((hes.ex e13).app hd13).ex x14
      have n14G : G l14 = none := by
        cases z : G l14 with
        | none => rfl
        | some o => rw [e13 _ _ z] at n14; cases n14
      walk_at "rd"
      refine go_ex (cT [l14] _ _ (jx_hid (Jx.of e14) n14G)) (fun s hs z => ?_) fun H15 u d15 e15 hu hfu => ?_
      · rw [List.mem_singleton.mp hs, upd_same] at z
        cases z
      have hu' : Dq (hid [l14] H15) u d15 := hu
      have hl15 := e15 _ _ (upd_same (H := H13) (a := l14) (o := .lst (ys ++ xs13)))
      walk_at "rd"
      refine go_app hl15 ?_ ?_
      · rw [List.length_append, hes.len, hd13.len]
        exact Nat.lt_of_lt_of_le (by omega : es.length + ds13.length < 600) (by decide)
      refine ⟨l14, _, es ++ ds13 ++ [d15], _, rfl, e.trans (Ex.mut (e14.trans e15) n14G), upd_same, ?_, by simp; omega, ?_⟩
      · refine DqAll.app (((hes.ex e13).app hd13).ex (Ex.mut (x14.trans e15) n14)) (.one ?_)
        have : Dq (hid [l14] (upd H15 l14 (.lst (ys ++ xs13 ++ [u])))) u d15 := by rw [hid_upd (by simp)]; exact hu'
        exact this.ex hid_ex
      · refine all_app (all_app hf fun d hd => (hf13 d hd).mono (by decide) (by decide)) fun d hd => ?_
        rw [List.mem_singleton.mp hd]
        exact hfu.mono (by decide) (by decide)
    · rintro σ G ⟨lf, ys, es, v4, rfl, e, hlf, hes, hn, hf⟩
      walk_at "rd"
      exact k lf G ys es (E12.trans e) hlf hes hf
end
end Kx

set_option Elab.async false
set_option linter.all false
set_option maxRecDepth 100000
set_option maxHeartbeats 2000000

namespace Kx
open PySem PySem.Spec PyProof.Rows L2 HX
open Evl (Ex)
local macro_rules | `(tactic| walk_at "side") => `(tactic| first | assumption | ((try dsimp only); first | assumption | decide +kernel | omega | exact ⟨by decide, by decide⟩ | (left; decide) | (left; omega) | (refine Or.inl ⟨?_, ?_⟩ <;> omega) | (refine Or.inr ⟨?_, ?_⟩ <;> omega)))
local macro_rules | `(tactic| walk_at "heap") => `(tactic| first | assumption | exact upd_same | exact Or.inl (by assumption) | exact Or.inl upd_same)
local macro_rules | `(tactic| walk_at "item") => `(tactic| first | exact rfl | exact atI_nat (j := 0) rfl | exact atI_nat (j := 1) rfl | exact atI_nat (j := 2) rfl | assumption)
local macro_rules | `(tactic| walk_at "rd") => `(tactic| repeat (first
  | ((with_reducible refine' go_var ?hv ?_); (case hv => exact rfl))
  | with_reducible refine' go_c ?_
  | with_reducible refine' go_op ?_
  | with_reducible refine' go_seq ?_
  | with_reducible refine' go_asg ?_
  | with_reducible refine' go_name ?_
  | with_reducible refine' go_cons ?_
  | with_reducible refine' go_nil ?_
  | with_reducible refine' go_cb ?_
  | with_reducible refine' go_call ?_
  | with_reducible refine' go_ifS ?_
  | with_reducible refine' go_test ?_
  | with_reducible refine' go_bl ?_
  | with_reducible refine' go_ret ?_
  | with_reducible refine' go_I0 ?_
  | ((with_reducible refine' go_I ?cc ?_); (case cc => walk_at "side"))
  | ((with_reducible refine' go_ixL ?hh ?hk ?_); (case hh => walk_at "heap"); (case hk => walk_at "item"))
  | ((with_reducible refine' go_ixT ?hh ?hk ?_); (case hh => walk_at "heap"); (case hk => walk_at "item"))
  | ((with_reducible refine' go_lenL ?hh ?_); (case hh => walk_at "heap"))
  | ((with_reducible refine' go_lenT ?hh ?_); (case hh => walk_at "heap"))
  | ((with_reducible refine' go_setL ?hh ?hk ?_); (case hh => walk_at "heap"); (case hk => walk_at "item"))
  | with_reducible refine' go_abs ?_
  | with_reducible refine' go_max ?_
  | with_reducible refine' go_min ?_
  | with_reducible refine' go_int ?_
  | with_reducible refine' go_intB ?_
  | (with_reducible refine' go_eq rfl ?_)
  | (with_reducible refine' go_ne rfl ?_)
  | with_reducible refine' go_isN ?_
  | with_reducible refine' go_notN ?_
  | with_reducible refine' go_if ?_
  | with_reducible refine' go_sub ?_
  | with_reducible refine' go_par ?_
  | with_reducible refine' go_sl ?_
  | with_reducible refine' go_part ?_
  | with_reducible refine' go_pint ?_
  | with_reducible refine' go_nopart ?_
  | ((with_reducible refine' go_lenL ?hh ?_); (case hh => walk_at "heap"))
  | ((with_reducible refine' go_lenT ?hh ?_); (case hh => walk_at "heap"))
  | ((with_reducible refine' go_lenS ?hh ?_); (case hh => assumption))
  | with_reducible refine' go_gcons ?_
  | with_reducible refine' go_gnil ?_
  | with_reducible refine' go_kw ?_
  | with_reducible refine' go_par2 ?_
  | with_reducible refine' go_next ?_
  | with_reducible refine' go_drop ?_
  | with_reducible refine' go_and ?_
  | with_reducible refine' go_or ?_
  | with_reducible refine' go_not ?_
  | with_reducible refine' go_B ?_
  | with_reducible refine' go_andV ?_
  | with_reducible refine' go_orV ?_
  | with_reducible refine' go_notV ?_
  | with_reducible refine' go_chain ?_
  | with_reducible refine' go_un ?_
  | with_reducible refine' go_U ?_
  | with_reducible refine' go_bm ?_
  | with_reducible refine' go_tup ?_
  | with_reducible refine' go_lst ?_
  | ((with_reducible refine' go_listL ?hh ?_); (case hh => walk_at "heap"))
  | with_reducible refine' go_forR1 ?_
  | with_reducible refine' go_forR2 ?_
  | with_reducible refine' go_forL ?_
  | with_reducible refine' go_forT ?_
  | with_reducible refine' go_forE ?_
  | with_reducible refine' go_lcR1 ?_
  | with_reducible refine' go_lcL ?_
  | with_reducible refine' go_lcT ?_
  | ((with_reducible refine' go_tyL ?hh ?_); (case hh => walk_at "heap"))
  | ((with_reducible refine' go_new ?hz ?_); (case hz => exact Nat.le_of_ble_eq_true rfl))
  | (with_reducible refine' ⟨_, rfl, ?_⟩)
  ))
--MACEND
/-- what the top has written of an own error without an __init__ -/
structure Err (K : PySem.W.Frag) (mg : Str → Option Value) (x : Str) (C : Addr) : Prop where
  g : mg x = some (.ref C)
  x : PySem.W.excIn K C [.type "ValueError", .type "Exception", .type "BaseException", .type "object"] "ValueError.__new__" = true
  k : PySem.W.keepIn K (.ref C) = true
  b : PySem.W.subIn K (.ref C) (.type "BaseException") = some true
  t : PySem.W.typeIn K (.ref C) = some (.type "type")
section
variable {P : Program} {w : World} {K : PySem.W.Frag} {mg : Str → Option Value} {base : Heap}
/-- a look that may raise: a right value passes, a wrong one is told -/
def spCheckE (f : PyData → Bool) (C : Addr) : Sp := fun vs H Q E => ∃ x d, vs = [x] ∧ Dq H x d ∧ (f d = true → ∀ H', Ex H H' → Q .non H') ∧ (f d = false → ∀ H', Ex H H' → E (.ref C) none H')
abbrev s_check_dial : Stmt := top 20
theorem sc_check_dial : FnScope ["dial"] ["dial"] (defScope s_check_dial) := ⟨rfl, rfl, rfl, by decide +kernel, rfl, by decide +kernel, by decide +kernel⟩
theorem ok_check_dialE {C f : Addr} {fd : FuncData} (F : Fun K "check_dial" "check_dial" s_check_dial f fd) (T_InvalidDial : Err K mg "InvalidDial" C) (h_is_integer : Has P w K mg base 1 "is_integer" (spLook isInt)) :
    FnOk P w K mg base (L2N.CX P w) 2 f fd ["dial"] (spCheckE isInt C) := by
  refine okXN F sc_check_dial (fun vs H Q E h => ?_) (fun cdv A outer s H vs Q E hr h => ?_)
  · obtain ⟨x, d, rfl, _⟩ := h
    rfl
  · obtain ⟨x, d, rfl, hd, k1, k2⟩ := h
    refine ⟨_, (pss_one (ps_if (pt_not (pt_val (pe_hs h_is_integer hr rfl (pa_cons (pv 0) pa_nil))))
  (pss_one (L2N.ps_raise rfl (L2N.takes_of rfl rfl rfl rfl) (L2N.pmk_own PySem.F.excBase_ValueError T_InvalidDial.x T_InvalidDial.g T_InvalidDial.k (raises_own T_InvalidDial.b T_InvalidDial.t) rfl)))
  pss_nil)), ?_⟩
    walk_at "rd"
    refine look_go hd fun H1 e1 => ?_
    walk_at "rd"
    cases q : isInt d with
    | true =>
      refine iteF ?_
      walk_at "rd"
      exact k1 q _ e1
    | false =>
      refine iteT ?_
      exact k2 q _ e1
abbrev s_check_signal : Stmt := top 21
theorem sc_check_signal : FnScope ["signal"] ["signal"] (defScope s_check_signal) := ⟨rfl, rfl, rfl, by decide +kernel, rfl, by decide +kernel, by decide +kernel⟩
theorem ok_check_signalE {C f : Addr} {fd : FuncData} (F : Fun K "check_signal" "check_signal" s_check_signal f fd) (T_InvalidSignal : Err K mg "InvalidSignal" C) (h_is_natural : Has P w K mg base 2 "is_natural" (spLook isNat)) :
    FnOk P w K mg base (L2N.CX P w) 3 f fd ["signal"] (spCheckE isNat C) := by
  refine okXN F sc_check_signal (fun vs H Q E h => ?_) (fun cdv A outer s H vs Q E hr h => ?_)
  · obtain ⟨x, d, rfl, _⟩ := h
    rfl
  · obtain ⟨x, d, rfl, hd, k1, k2⟩ := h
    refine ⟨_, (pss_one (ps_if (pt_not (pt_val (pe_hs h_is_natural hr rfl (pa_cons (pv 0) pa_nil))))
  (pss_one (L2N.ps_raise rfl (L2N.takes_of rfl rfl rfl rfl) (L2N.pmk_own PySem.F.excBase_ValueError T_InvalidSignal.x T_InvalidSignal.g T_InvalidSignal.k (raises_own T_InvalidSignal.b T_InvalidSignal.t) rfl)))
  pss_nil)), ?_⟩
    walk_at "rd"
    refine look_go hd fun H1 e1 => ?_
    walk_at "rd"
    cases q : isNat d with
    | true =>
      refine iteF ?_
      walk_at "rd"
      exact k1 q _ e1
    | false =>
      refine iteT ?_
      exact k2 q _ e1
end
end Kx

set_option Elab.async false
set_option linter.all false
set_option maxRecDepth 100000
set_option maxHeartbeats 2000000

namespace Kx
open PySem PySem.Spec PyProof.Rows L2 HX
open Evl (Ex)
local macro_rules | `(tactic| walk_at "side") => `(tactic| first | assumption | ((try dsimp only); first | assumption | decide +kernel | omega | exact ⟨by decide, by decide⟩ | (left; decide) | (left; omega) | (refine Or.inl ⟨?_, ?_⟩ <;> omega) | (refine Or.inr ⟨?_, ?_⟩ <;> omega)))
local macro_rules | `(tactic| walk_at "heap") => `(tactic| first | assumption | exact upd_same | exact Or.inl (by assumption) | exact Or.inl upd_same)
local macro_rules | `(tactic| walk_at "item") => `(tactic| first | exact rfl | exact atI_nat (j := 0) rfl | exact atI_nat (j := 1) rfl | exact atI_nat (j := 2) rfl | assumption)
local macro_rules | `(tactic| walk_at "rd") => `(tactic| repeat (first
  | ((with_reducible refine' go_var ?hv ?_); (case hv => exact rfl))
  | with_reducible refine' go_c ?_
  | with_reducible refine' go_op ?_
  | with_reducible refine' go_seq ?_
  | with_reducible refine' go_asg ?_
  | with_reducible refine' go_name ?_
  | with_reducible refine' go_cons ?_
  | with_reducible refine' go_nil ?_
  | with_reducible refine' go_cb ?_
  | with_reducible refine' go_call ?_
  | with_reducible refine' go_ifS ?_
  | with_reducible refine' go_test ?_
  | with_reducible refine' go_bl ?_
  | with_reducible refine' go_ret ?_
  | with_reducible refine' go_I0 ?_
  | ((with_reducible refine' go_I ?cc ?_); (case cc => walk_at "side"))
  | ((with_reducible refine' go_ixL ?hh ?hk ?_); (case hh => walk_at "heap"); (case hk => walk_at "item"))
  | ((with_reducible refine' go_ixT ?hh ?hk ?_); (case hh => walk_at "heap"); (case hk => walk_at "item"))
  | ((with_reducible refine' go_lenL ?hh ?_); (case hh => walk_at "heap"))
  | ((with_reducible refine' go_lenT ?hh ?_); (case hh => walk_at "heap"))
  | ((with_reducible refine' go_setL ?hh ?hk ?_); (case hh => walk_at "heap"); (case hk => walk_at "item"))
  | with_reducible refine' go_abs ?_
  | with_reducible refine' go_max ?_
  | with_reducible refine' go_min ?_
  | with_reducible refine' go_int ?_
  | with_reducible refine' go_intB ?_
  | (with_reducible refine' go_eq rfl ?_)
  | (with_reducible refine' go_ne rfl ?_)
  | with_reducible refine' go_isN ?_
  | with_reducible refine' go_notN ?_
  | with_reducible refine' go_if ?_
  | with_reducible refine' go_sub ?_
  | with_reducible refine' go_par ?_
  | with_reducible refine' go_sl ?_
  | with_reducible refine' go_part ?_
  | with_reducible refine' go_pint ?_
  | with_reducible refine' go_nopart ?_
  | ((with_reducible refine' go_lenL ?hh ?_); (case hh => walk_at "heap"))
  | ((with_reducible refine' go_lenT ?hh ?_); (case hh => walk_at "heap"))
  | ((with_reducible refine' go_lenS ?hh ?_); (case hh => assumption))
  | with_reducible refine' go_gcons ?_
  | with_reducible refine' go_gnil ?_
  | with_reducible refine' go_kw ?_
  | with_reducible refine' go_par2 ?_
  | with_reducible refine' go_next ?_
  | with_reducible refine' go_drop ?_
  | with_reducible refine' go_and ?_
  | with_reducible refine' go_or ?_
  | with_reducible refine' go_not ?_
  | with_reducible refine' go_B ?_
  | with_reducible refine' go_andV ?_
  | with_reducible refine' go_orV ?_
  | with_reducible refine' go_notV ?_
  | with_reducible refine' go_chain ?_
  | with_reducible refine' go_un ?_
  | with_reducible refine' go_U ?_
  | with_reducible refine' go_bm ?_
  | with_reducible refine' go_tup ?_
  | with_reducible refine' go_lst ?_
  | with_reducible refine' go_forR1 ?_
  | with_reducible refine' go_forR2 ?_
  | with_reducible refine' go_forL ?_
  | with_reducible refine' go_forT ?_
  | with_reducible refine' go_forE ?_
  | with_reducible refine' go_lcR1 ?_
  | with_reducible refine' go_lcL ?_
  | with_reducible refine' go_lcT ?_
  | ((with_reducible refine' go_tyL ?hh ?_); (case hh => walk_at "heap"))
  | ((with_reducible refine' go_new ?hz ?_); (case hz => exact Nat.le_of_ble_eq_true rfl))
  | (with_reducible refine' ⟨_, rfl, ?_⟩)
  ))
--MACEND
/-- what a call with three arguments tells: the first wrong one's error, or all is well -/
structure Tell (CR CD CS : Addr) (dx dy dz : PyData) (H : Hp) (E : XK) (good : Prop) : Prop where
  r : ∀ f, fault dx = some f → ∀ H' dd, Ex H H' → H dd = none → H' dd = some (.xd [("index", fltV f)]) → E (.ref CR) (some dd) H'
  d : fault dx = none → isInt dy = false → ∀ H', Ex H H' → E (.ref CD) none H'
  s : fault dx = none → isInt dy = true → isNat dz = false → ∀ H', Ex H H' → E (.ref CS) none H'
  g : fault dx = none → isInt dy = true → isNat dz = true → good
theorem stage_stg {d : PyData} (h : isStage d = true) : ∃ s : Stg, d = s.d := by
  unfold isStage at h
  split at h
  · rename_i k d2 ds
    split at h
    · rename_i hk
      subst hk
      rw [Bool.and_eq_true] at h
      obtain ⟨i, rfl, _⟩ := nat_int h.2
      have : ds = [] := by simpa using h.1
      subst this
      exact ⟨.mix i, rfl⟩
    · split at h
      · rename_i hk
        subst hk
        rw [Bool.and_eq_true] at h
        have : ds = [] := by simpa using h.1
        subst this
        cases d2 <;> simp [isInt] at h
        exact ⟨.dial _, rfl⟩
      · rw [Bool.and_eq_true, decide_eq_true_eq] at h
        obtain ⟨rfl, h⟩ := h
        unfold isBand at h
        split at h
        · rename_i a b e
          cases e
          exact ⟨.pass a b, rfl⟩
        · cases h
  · cases h
theorem flt_stgs : ∀ {sd : List PyData} {i : Nat} {has : Bool}, fltS sd i has = none → ∃ ss : List Stg, sd = ss.map Stg.d
  | [], _, _, _ => ⟨[], rfl⟩
  | d :: sd, i, has, h => by
    have h' : (if isStage d = true then (if isDialD d = true then (if has = true then some i else fltS sd (i + 1) true) else fltS sd (i + 1) has) else some i) = none := h
    split at h'
    · rename_i hs
      obtain ⟨s, rfl⟩ := stage_stg hs
      have rest : ∃ has2, fltS sd (i + 1) has2 = none := by
        split at h'
        · split at h'
          · cases h'
          · exact ⟨_, h'⟩
        · exact ⟨_, h'⟩
      obtain ⟨_, h2⟩ := rest
      obtain ⟨ss, rfl⟩ := flt_stgs h2
      exact ⟨s :: ss, rfl⟩
    · cases h'
theorem fault_none {d : PyData} (h : fault d = none) : ∃ (ss : List Stg) (rate : Option Int), d = radD ss rate ∧ ss ≠ [] ∧ ss.length ≤ 8 ∧ ∀ r, rate = some r → 2 ≤ r := by
  cases hf : isFrame d with
  | false => rw [frame_no hf] at h; cases h
  | true =>
    obtain ⟨sd, r, rfl, hfl⟩ := frame_yes hf
    rw [hfl] at h
    cases hs : fltS sd 0 false with
    | some i => rw [hs] at h; cases h
    | none =>
      rw [hs] at h
      obtain ⟨ss, rfl⟩ := flt_stgs hs
      have hr : isRate r = true := by
        cases q : isRate r with
        | true => rfl
        | false => rw [q] at h; cases h
      have hl : 1 ≤ (ss.map Stg.d).length ∧ (ss.map Stg.d).length ≤ 8 := by
        simpa [isFrame] using hf
      rw [List.length_map] at hl
      have ne : ss ≠ [] := fun z => by rw [z] at hl; simp at hl
      cases r <;> simp [isRate] at hr
      · exact ⟨ss, none, rfl, ne, hl.2, fun _ z => nomatch z⟩
      · rename_i i
        exact ⟨ss, some i, rfl, ne, hl.2, fun r z => by cases z; exact hr⟩
theorem go_checkE {f : PyData → Bool} {C : Addr} {x : V} {d : PyData} {H : Hp} {Q : VK} {E : XK} (h : Dq H x d) (k1 : f d = true → ∀ H', Ex H H' → Q .non H') (k2 : f d = false → ∀ H', Ex H H' → E (.ref C) none H') : spCheckE f C ([x]) H Q E := ⟨x, d, rfl, h, k1, k2⟩
def spStagesE (CR CD CS : Addr) : Sp := fun vs H Q E => ∃ x y z dx dy dz, vs = [x, y, z] ∧ Dq H x dx ∧ Dq H y dy ∧ Dq H z dz ∧
  Tell CR CD CS dx dy dz H E (∀ p H' xs v, Ex H H' → H' p = some (.lst (xs ++ [v])) → Q (.ref p) H')
section
variable {P : Program} {w : World} {K : PySem.W.Frag} {mg : Str → Option Value} {base : Heap} {CR CD CS : Addr}
abbrev s_stage_tones : Stmt := top 24
theorem sc_stage_tones : FnScope ["receiver", "dial", "signal", "stages", "rate", "number", "tones", "stage"] ["receiver", "dial", "signal"] (defScope s_stage_tones) := ⟨rfl, rfl, rfl, by decide +kernel, rfl, by decide +kernel, by decide +kernel⟩
theorem ok_stage_tonesE {f : Addr} {fd : FuncData} (F : Fun K "stage_tones" "stage_tones" s_stage_tones f fd) (h_check_receiver : HasX P w K mg base 5 "check_receiver" (spRecvE CR)) (h_check_dial : HasX P w K mg base 2 "check_dial" (spCheckE isInt CD))
    (h_check_signal : HasX P w K mg base 3 "check_signal" (spCheckE isNat CS)) (h_behind_stage : Has P w K mg base 2 "behind_stage" spBehind) (h_behind_sampler : Has P w K mg base 1 "behind_sampler" spSampler) :
    FnOk P w K mg base (L2N.CX P w) 6 f fd ["receiver", "dial", "signal"] (spStagesE CR CD CS) := by
  refine okXN F sc_stage_tones (fun vs H Q E h => ?_) (fun cdv A outer s H vs Q E hr h => ?_)
  · obtain ⟨x, y, z, dx, dy, dz, rfl, _⟩ := h
    rfl
  · obtain ⟨x, y, z, dx, dy, dz, rfl, hx, hy, hz, T⟩ := h
    refine ⟨_, (pss_cons (ps_expr (pe_hsS h_check_receiver hr rfl (fun σ => L2N.passAt (L2N.takes_of rfl rfl rfl rfl) σ) (pa_cons (pv 0) pa_nil)))
  (pss_cons (ps_expr (pe_hsS h_check_dial hr rfl (fun σ => L2N.passAt (L2N.takes_of rfl rfl rfl rfl) σ) (pa_cons (pv 1) pa_nil)))
  (pss_cons (ps_expr (pe_hsS h_check_signal hr rfl (fun σ => L2N.passAt (L2N.takes_of rfl rfl rfl rfl) σ) (pa_cons (pv 2) pa_nil)))
  (pss_cons (ps_asg (pv 0) (pg_tup (by rfl) (pgs_cons (pg_name (i := 3) sc_stage_tones.nd rfl (Or.inl rfl)) (pgs_cons (pg_name (i := 4) sc_stage_tones.nd rfl (Or.inl rfl)) pgs_nil))))
  (pss_cons (ps_set (i := 5) sc_stage_tones.nd rfl (Or.inl rfl) (pv 2))
  (pss_cons (ps_set (i := 6) sc_stage_tones.nd rfl (Or.inl rfl) (pe_lst pa_nil))
  (pss_cons (ps_for (passes_of rfl) rfl (pi_list (pv 3)) (pg_name (i := 7) sc_stage_tones.nd rfl (Or.inl rfl))
  (pss_cons (ps_set (i := 5) sc_stage_tones.nd rfl (Or.inl rfl) (pe_hs h_behind_stage hr rfl (pa_cons (pv 7) (pa_cons (pv 1) (pa_cons (pv 5) pa_nil)))))
  (pss_one (ps_expr (pe_bm PySem.F.plainAttrs_list PySem.F.slot_list_append PySem.F.type_list_append mt_append (pv 6) (pa_cons (pv 5) pa_nil))))))
  (pss_cons (ps_if (pt_cmpR op_notN1 (pv 4) pe_non (nomark _))
  (pss_one (ps_expr (pe_bm PySem.F.plainAttrs_list PySem.F.slot_list_append PySem.F.type_list_append mt_append (pv 6) (pa_cons (pe_hs h_behind_sampler hr rfl (pa_cons (pv 4) (pa_cons (pv 5) pa_nil))) pa_nil))))
  pss_nil)
  (pss_one (ps_ret (pv 6))))))))))), ?_⟩
    walk_at "rd"
    refine go_callS ?_
    walk_at "rd"
    refine ⟨x, dx, rfl, hx, fun h0 H1 e1 => ?_, fun f h0 H' dd e n q => T.r f h0 H' dd e n q⟩
    walk_at "rd"
    refine go_callS ?_
    walk_at "rd"
    refine go_checkE (hy.ex e1) (fun h1 H2 e2 => ?_) fun h1 H2 e2 => T.d h0 h1 _ (e1.trans e2)
    walk_at "rd"
    refine go_callS ?_
    walk_at "rd"
    refine go_checkE (hz.ex (e1.trans e2)) (fun h2 H3 e3 => ?_) fun h2 H3 e3 => T.s h0 h1 h2 _ ((e1.trans e2).trans e3)
    have e := (e1.trans e2).trans e3
    have good := T.g h0 h1 h2
    obtain ⟨ss, rate, rfl, ne, l8, hrt⟩ := fault_none h0
    obtain ⟨dial, rfl⟩ : ∃ i, dy = .int i := by cases dy <;> simp [isInt] at h1; exact ⟨_, rfl⟩
    obtain ⟨n, rfl, _⟩ := nat_int h2
    cases hy
    cases hz
    walk_at "rd"
    obtain ⟨a, xs, rfl, ha, hda⟩ := Dq.tupleAt (ds := [.list (ss.map Stg.d), rateD rate]) (hx.ex e)
    obtain ⟨v1, v2, d1, d2, rfl, ed, hv1, hv2⟩ := dqa2 hda rfl
    obtain ⟨rfl, rfl⟩ : PyData.list (ss.map Stg.d) = d1 ∧ rateD rate = d2 := by simpa using ed
    obtain ⟨l, ys, rfl, hl, hys⟩ := hv1.listAt
    refine go_gtup (.inl ha) rfl ?_
    walk_at "rd"
    intro t ht
    walk_at "rd"
    refine ⟨⟨ys, .inl (Evl.ex_rd (Ex.new ht) hl)⟩, ?_⟩
    refine run_forL ys (fun i σ G => ∃ v7 : Option V, σ = [some (.ref a), some (.int dial), some (.int n), some (.ref l), some v2, some (optV (lastT dial (ss.take i) (some n))), some (.ref t), v7] ∧ Ex H3 G ∧
        G t = some (.lst ((tones dial (ss.take i) (some n)).map optV))) ?_ ?_ ?_ ?_
    · exact ⟨_, rfl, Ex.new ht, upd_same⟩
    · rintro i σ G _ ⟨v7, rfl, eG, _⟩
      exact .inl (Evl.ex_rd eG hl)
    · rintro i y σ G hi ⟨v7, rfl, eG, hG⟩
      obtain ⟨s, hs, hds⟩ := dqa_get hys hi
      walk_at "rd"
      refine ⟨y, s, dial, _, rfl, hds.ex eG, fun G1 e4 => ?_⟩
      have hG1 := e4 _ _ hG
      walk_at "rd"
      refine go_app hG1 ?_ ?_
      · rw [List.length_map, tones_len, List.length_take]
        exact Nat.lt_of_le_of_lt (Nat.le_trans (Nat.min_le_right _ _) l8) (by decide)
      · obtain ⟨t1, t2⟩ := tones_take dial ss (some n) i s hs
        refine ⟨some y, by rw [t2]; rfl, Ex.mut (eG.trans e4) ht, ?_⟩
        rw [t1, List.map_append]
        exact upd_same
    · rintro σ G ⟨v7, rfl, eG, hG⟩
      have hlen : ys.length = ss.length := by rw [hys.len, List.length_map]
      rw [hlen, List.take_length] at hG ⊢
      obtain ⟨us, u, hu⟩ : ∃ us u, (tones dial ss (some n)).map optV = us ++ [u] := by
        rcases List.eq_nil_or_concat ((tones dial ss (some n)).map optV) with z | ⟨us, u, z⟩
        · have := congrArg List.length z
          rw [List.length_map, tones_len] at this
          have : ss.length = 0 := by simpa using this
          exact absurd (List.length_eq_zero_iff.mp this) ne
        · exact ⟨us, u, by rw [z, List.concat_eq_append]⟩
      walk_at "rd"
      cases rate with
      | none =>
        have hz : (!decide (v2 = V.non)) = false := by cases hv2; simp
        rw [hz]
        refine iteF ?_
        walk_at "rd"
        exact good t G us u (e.trans eG) (by rw [hG, hu])
      | some r =>
        cases hv2
        have hz : (!decide (V.int r = V.non)) = true := by simp
        rw [hz]
        refine iteT ?_
        walk_at "rd"
        refine ⟨r, _, rfl, hrt r rfl, fun G1 e4 => ?_⟩
        have hG1 := e4 _ _ hG
        walk_at "rd"
        refine go_app hG1 ?_ ?_
        · rw [List.length_map, tones_len]
          exact Nat.lt_of_le_of_lt l8 (by decide)
        · walk_at "rd"
          exact good t _ _ _ (e.trans (Ex.mut (eG.trans e4) ht)) upd_same
def spToneE (CR CD CS : Addr) : Sp := fun vs H Q E => ∃ x y z dx dy dz, vs = [x, y, z] ∧ Dq H x dx ∧ Dq H y dy ∧ Dq H z dz ∧ Tell CR CD CS dx dy dz H E (∀ v H', Ex H H' → Q v H')
abbrev s_tone_at : Stmt := top 23
theorem sc_tone_at : FnScope ["receiver", "dial", "signal"] ["receiver", "dial", "signal"] (defScope s_tone_at) := ⟨rfl, rfl, rfl, by decide +kernel, rfl, by decide +kernel, by decide +kernel⟩
theorem ok_tone_atE {f : Addr} {fd : FuncData} (F : Fun K "tone_at" "tone_at" s_tone_at f fd) (h_stage_tones : HasX P w K mg base 6 "stage_tones" (spStagesE CR CD CS)) :
    FnOk P w K mg base (L2N.CX P w) 7 f fd ["receiver", "dial", "signal"] (spToneE CR CD CS) := by
  refine okXN F sc_tone_at (fun vs H Q E h => ?_) (fun cdv A outer s H vs Q E hr h => ?_)
  · obtain ⟨x, y, z, dx, dy, dz, rfl, _⟩ := h
    rfl
  · obtain ⟨x, y, z, dx, dy, dz, rfl, hx, hy, hz, T⟩ := h
    refine ⟨_, (pss_one (ps_ret (pe_ix ix_list (pe_hsS h_stage_tones hr rfl (fun σ => L2N.passAt (L2N.takes_of rfl rfl rfl rfl) σ) (pa_cons (pv 0) (pa_cons (pv 1) (pa_cons (pv 2) pa_nil)))) (pe_un un_neg pe_int) (fun _ _ => rfl)))), ?_⟩
    walk_at "rd"
    refine go_callS ?_
    walk_at "rd"
    refine ⟨x, y, z, dx, dy, dz, rfl, hx, hy, hz, T.r, T.d, T.s, fun h0 h1 h2 p H' xs v e hp => ?_⟩
    walk_at "rd"
    refine go_ixL (.inl hp) (atI_last xs v) ?_
    exact T.g h0 h1 h2 v H' e
def spCallE (CR CD CS : Addr) : Sp := fun vs H Q E => ∃ (word : Str) (p : Addr) (x y z : V) (dx dy dz : PyData), vs = [.str word, .ref p] ∧ Rd H p (.lst [x, y, z]) ∧ Dq H x dx ∧ Dq H y dy ∧ Dq H z dz ∧ Tell CR CD CS dx dy dz H E (∀ H', Ex H H' → Q .non H')
abbrev s__law_call : Stmt := top 36
theorem sc__law_call : FnScope ["word", "args"] ["word", "args"] (defScope s__law_call) := ⟨rfl, rfl, rfl, by decide +kernel, rfl, by decide +kernel, by decide +kernel⟩
theorem ok_law_call {f : Addr} {fd : FuncData} (F : Fun K "_law_call" "_law_call" s__law_call f fd) (h_stage_tones : HasX P w K mg base 6 "stage_tones" (spStagesE CR CD CS)) (h_tone_at : HasX P w K mg base 7 "tone_at" (spToneE CR CD CS)) :
    FnOk P w K mg base (L2N.CX P w) 8 f fd ["word", "args"] (spCallE CR CD CS) := by
  refine okXN F sc__law_call (fun vs H Q E h => ?_) (fun cdv A outer s H vs Q E hr h => ?_)
  · obtain ⟨word, p, x, y, z, dx, dy, dz, rfl, _⟩ := h
    rfl
  · obtain ⟨word, p, x, y, z, dx, dy, dz, rfl, hp, hx, hy, hz, T⟩ := h
    refine ⟨_, (pss_one (ps_if (pt_cmpR op_eq (pv 0) pe_str (nomark _))
  (pss_one (ps_expr (pe_hsS h_tone_at hr rfl (fun σ => L2N.passAt (L2N.takes_of rfl rfl rfl rfl) σ) (pa_cons (pe_ix ix_list (pv 1) pe_int (fun _ _ => rfl)) (pa_cons (pe_ix ix_list (pv 1) pe_int (fun _ _ => rfl)) (pa_cons (pe_ix ix_list (pv 1) pe_int (fun _ _ => rfl)) pa_nil))))))
  (pss_one (ps_expr (pe_hsS h_stage_tones hr rfl (fun σ => L2N.passAt (L2N.takes_of rfl rfl rfl rfl) σ) (pa_cons (pe_ix ix_list (pv 1) pe_int (fun _ _ => rfl)) (pa_cons (pe_ix ix_list (pv 1) pe_int (fun _ _ => rfl)) (pa_cons (pe_ix ix_list (pv 1) pe_int (fun _ _ => rfl)) pa_nil)))))))), ?_⟩
    walk_at "rd"
    refine ite2 (fun _ => ?_) (fun _ => ?_)
    · walk_at "rd"
      refine go_callS ?_
      walk_at "rd"
      exact ⟨x, y, z, dx, dy, dz, rfl, hx, hy, hz, T.r, T.d, T.s, fun h0 h1 h2 v H' e => T.g h0 h1 h2 H' e⟩
    · walk_at "rd"
      refine go_callS ?_
      walk_at "rd"
      exact ⟨x, y, z, dx, dy, dz, rfl, hx, hy, hz, T.r, T.d, T.s, fun h0 h1 h2 p H' xs v e _ => T.g h0 h1 h2 H' e⟩
end
end Kx

set_option Elab.async false
set_option linter.all false
set_option maxRecDepth 100000
set_option maxHeartbeats 4000000

namespace Kx
open PySem PySem.Spec PyProof.Rows L2 HX
open Evl (Ex)
local macro_rules | `(tactic| walk_at "side") => `(tactic| first | assumption | ((try dsimp only); first | assumption | decide +kernel | omega | exact ⟨by decide, by decide⟩ | (left; decide) | (left; omega) | (refine Or.inl ⟨?_, ?_⟩ <;> omega) | (refine Or.inr ⟨?_, ?_⟩ <;> omega)))
local macro_rules | `(tactic| walk_at "heap") => `(tactic| first | assumption | exact upd_same | exact Or.inl (by assumption) | exact Or.inl upd_same)
local macro_rules | `(tactic| walk_at "item") => `(tactic| first | exact rfl | exact atI_nat (j := 0) rfl | exact atI_nat (j := 1) rfl | exact atI_nat (j := 2) rfl | assumption)
local macro_rules | `(tactic| walk_at "rd") => `(tactic| repeat (first
  | ((with_reducible refine' go_var ?hv ?_); (case hv => exact rfl))
  | with_reducible refine' go_c ?_
  | with_reducible refine' go_op ?_
  | with_reducible refine' go_seq ?_
  | with_reducible refine' go_asg ?_
  | with_reducible refine' go_name ?_
  | with_reducible refine' go_cons ?_
  | with_reducible refine' go_nil ?_
  | with_reducible refine' go_cb ?_
  | with_reducible refine' go_call ?_
  | with_reducible refine' go_ifS ?_
  | with_reducible refine' go_test ?_
  | with_reducible refine' go_bl ?_
  | with_reducible refine' go_ret ?_
  | with_reducible refine' go_I0 ?_
  | ((with_reducible refine' go_I ?cc ?_); (case cc => walk_at "side"))
  | ((with_reducible refine' go_ixL ?hh ?hk ?_); (case hh => walk_at "heap"); (case hk => walk_at "item"))
  | ((with_reducible refine' go_ixT ?hh ?hk ?_); (case hh => walk_at "heap"); (case hk => walk_at "item"))
  | ((with_reducible refine' go_lenL ?hh ?_); (case hh => walk_at "heap"))
  | ((with_reducible refine' go_lenT ?hh ?_); (case hh => walk_at "heap"))
  | ((with_reducible refine' go_setL ?hh ?hk ?_); (case hh => walk_at "heap"); (case hk => walk_at "item"))
  | with_reducible refine' go_abs ?_
  | with_reducible refine' go_max ?_
  | with_reducible refine' go_min ?_
  | with_reducible refine' go_int ?_
  | with_reducible refine' go_intB ?_
  | (with_reducible refine' go_eq rfl ?_)
  | (with_reducible refine' go_ne rfl ?_)
  | with_reducible refine' go_isN ?_
  | with_reducible refine' go_notN ?_
  | with_reducible refine' go_if ?_
  | with_reducible refine' go_sub ?_
  | with_reducible refine' go_par ?_
  | with_reducible refine' go_sl ?_
  | with_reducible refine' go_part ?_
  | with_reducible refine' go_pint ?_
  | with_reducible refine' go_nopart ?_
  | ((with_reducible refine' go_lenL ?hh ?_); (case hh => walk_at "heap"))
  | ((with_reducible refine' go_lenT ?hh ?_); (case hh => walk_at "heap"))
  | ((with_reducible refine' go_lenS ?hh ?_); (case hh => assumption))
  | with_reducible refine' go_gcons ?_
  | with_reducible refine' go_gnil ?_
  | with_reducible refine' go_kw ?_
  | with_reducible refine' go_par2 ?_
  | with_reducible refine' go_next ?_
  | with_reducible refine' go_drop ?_
  | with_reducible refine' go_and ?_
  | with_reducible refine' go_or ?_
  | with_reducible refine' go_not ?_
  | with_reducible refine' go_B ?_
  | with_reducible refine' go_andV ?_
  | with_reducible refine' go_orV ?_
  | with_reducible refine' go_notV ?_
  | with_reducible refine' go_chain ?_
  | with_reducible refine' go_un ?_
  | with_reducible refine' go_U ?_
  | with_reducible refine' go_bm ?_
  | with_reducible refine' go_tup ?_
  | with_reducible refine' go_lst ?_
  | with_reducible refine' go_forR1 ?_
  | with_reducible refine' go_forR2 ?_
  | with_reducible refine' go_forL ?_
  | with_reducible refine' go_forT ?_
  | with_reducible refine' go_forE ?_
  | with_reducible refine' go_lcR1 ?_
  | with_reducible refine' go_lcL ?_
  | with_reducible refine' go_lcT ?_
  | ((with_reducible refine' go_tyL ?hh ?_); (case hh => walk_at "heap"))
  | ((with_reducible refine' go_new ?hz ?_); (case hz => exact Nat.le_of_ble_eq_true rfl))
  | (with_reducible refine' ⟨_, rfl, ?_⟩)
  ))
--MACEND
def fltD : Option Nat → PyData
  | none => .none
  | some i => .int i
theorem dq_flt (H : Hp) : ∀ f : Option Nat, Dq H (fltV f) (fltD f)
  | none => .non
  | some i => .int i
theorem flt_lt : ∀ {sd : List PyData} {j i : Nat} {has : Bool}, fltS sd j has = some i → i < j + sd.length
  | [], _, _, _, h => by cases h
  | d :: sd, j, i, has, h => by
    have h' : (if isStage d = true then (if isDialD d = true then (if has = true then some j else fltS sd (j + 1) true) else fltS sd (j + 1) has) else some j) = some i := h
    rw [List.length_cons]
    split at h'
    · split at h'
      · split at h'
        · cases h'; omega
        · have := flt_lt h'; omega
      · have := flt_lt h'; omega
    · cases h'; omega
theorem fault_le {d : PyData} {i : Nat} (h : fault d = some (some i)) : i ≤ 8 := by
  cases hf : isFrame d with
  | false => rw [frame_no hf] at h; cases h
  | true =>
    obtain ⟨sd, r, rfl, hfl⟩ := frame_yes hf
    rw [hfl] at h
    have hl : sd.length ≤ 8 := by
      simp [isFrame] at hf
      exact hf.2
    cases hs : fltS sd 0 false with
    | some k =>
      rw [hs] at h
      have := flt_lt hs
      have e : k = i := by simpa using h
      omega
    | none =>
      rw [hs] at h
      cases q : isRate r with
      | true => rw [q] at h; cases h
      | false =>
        rw [q] at h
        have e : sd.length = i := by simpa using h
        omega
theorem flt_fine {d : PyData} {f : Option Nat} (h : fault d = some f) : Fine 600 0 (fltD f) ∧ (("InvalidReceiver " : Str).length + (fltD f).shown.length ≤ sizeLine) := by
  cases f with
  | none => exact ⟨Fine.none.mono (by decide) (by decide), by rw [sizeLine_eq]; decide +kernel⟩
  | some i =>
    have hi := fault_le h
    have key : ∀ i : Nat, i ≤ 8 → (("InvalidReceiver " : Str).length + (fltD (some i)).shown.length ≤ 16777216) := by
      intro i hi
      match i, hi with
      | 0, _ => decide +kernel
      | 1, _ => decide +kernel
      | 2, _ => decide +kernel
      | 3, _ => decide +kernel
      | 4, _ => decide +kernel
      | 5, _ => decide +kernel
      | 6, _ => decide +kernel
      | 7, _ => decide +kernel
      | 8, _ => decide +kernel
    refine ⟨Fine.int (Nat.lt_of_le_of_lt (show ((i : Int).natAbs) ≤ 8 by omega) (by decide +kernel)), ?_⟩
    rw [sizeLine_eq]
    exact key i hi
/-- the error that is due -/
def dueT (dx dy dz : PyData) : Str := match fault dx with
  | some f => ("InvalidReceiver " : Str) ++ (fltD f).shown
  | none => if isInt dy then (if isNat dz then "" else "InvalidSignal") else "InvalidDial"
theorem go_addS {i j : Str} {H : Hp} {Q : VK} (h : i.length + j.length ≤ sizeLine) (q : Q (.str (i ++ j)) H) : ∃ a b : Str, V.str i = .str a ∧ V.str j = .str b ∧ a.length + b.length ≤ sizeLine ∧ Q (.str (a ++ b)) H := ⟨i, j, rfl, rfl, h, q⟩
theorem wAll_yes {K : PySem.W.Frag} {i : Nat} {Wo : WX} {D : Ends} {c : Value} {t : Addr → Value → Option Addr → TS} {more : List (Value × (Addr → Value → Option Addr → TS))} {cl : Value} {dd : Option Addr} {τ : L2.St} {G : Hp}
    (m : PySem.W.exmOne K cl c = some true) (k : ∀ x, G x = none → t x cl dd (Ends.clr i D) (τ.set i (some (.ref x))) G) : wAll K i Wo D ((c, t) :: more) cl dd τ G := ⟨true, m, (fun _ => k), (fun z => nomatch z)⟩
theorem wAll_no {K : PySem.W.Frag} {i : Nat} {Wo : WX} {D : Ends} {c : Value} {t : Addr → Value → Option Addr → TS} {more : List (Value × (Addr → Value → Option Addr → TS))} {cl : Value} {dd : Option Addr} {τ : L2.St} {G : Hp}
    (m : PySem.W.exmOne K cl c = some false) (k : wAll K i Wo D more cl dd τ G) : wAll K i Wo D ((c, t) :: more) cl dd τ G := ⟨false, m, (fun z => nomatch z), (fun _ => k)⟩
theorem go_byErr {fld : Str} {C a : Addr} {cls : Value} {d : Option Addr} {te : TE} {σ : L2.St} {H : Hp} {Q : VK} (h : te σ H fun x H1 => x = .ref a ∧ cls = .ref C ∧ ∃ (dd : Addr) (v : V), d = some dd ∧ H1 dd = some (.xd [(fld, v)]) ∧ Q v H1) : tByErr fld C a cls d te σ H Q := h
theorem go_clr {i : Nat} {D : Ends} {τ : L2.St} {G : Hp} (h : D.nx (τ.set i none) G) : (Ends.clr i D).nx τ G := h
theorem go_isH {K : PySem.W.Frag} {a C : Addr} {d : Option Addr} {c : V} {cv : Value} {b : Bool} {H : Hp} {Q : VK} (hc : ClsV c cv) (T : ExcC K C) (hd : ∀ dx, d = some dx → ∃ fs, H dx = some (.xd fs)) (hk : PySem.W.kitOne K (.ref C) cv = some b) (q : Q (.bl b) H) :
    rIsH K a (.ref C) d [.ref a, c] H Q := ⟨C, c, cv, b, rfl, hc, rfl, T, hd, hk, q⟩
def spDueT : Sp := fun vs H Q _ => ∃ (p : Addr) (x y z : V) (dx dy dz : PyData), vs = [.ref p] ∧ Rd H p (.lst [x, y, z]) ∧ Dq H x dx ∧ Dq H y dy ∧ Dq H z dz ∧ ∀ H', Ex H H' → Q (.str (dueT dx dy dz)) H'
def spToldT : Sp := fun vs H Q _ => ∃ (word : Str) (p : Addr) (x y z : V) (dx dy dz : PyData), vs = [.str word, .ref p] ∧ Rd H p (.lst [x, y, z]) ∧ Dq H x dx ∧ Dq H y dy ∧ Dq H z dz ∧ ∀ H', Ex H H' → Q (.str (dueT dx dy dz)) H'
section
variable {P : Program} {w : World} {K : PySem.W.Frag} {mg : Str → Option Value} {base : Heap} {CR CD CS CN CT0 fI : Addr}
abbrev s__law_due : Stmt := top 37
theorem sc__law_due : FnScope ["args", "fault"] ["args"] (defScope s__law_due) := ⟨rfl, rfl, rfl, by decide +kernel, rfl, by decide +kernel, by decide +kernel⟩
theorem ok_law_due {f : Addr} {fd : FuncData} (F : Fun K "_law_due" "_law_due" s__law_due f fd) (m_repr : mg "repr" = none) (m_isinstance : mg "isinstance" = none) (m_int : mg "int" = none) (m_bool : mg "bool" = none)
    (h__law_radio_fault : Has P w K mg base 3 "_law_radio_fault" spFault) (h__law_is_int : Has P w K mg base 1 "_law_is_int" spGe) :
    FnG P w K mg base CX0 4 f fd ["args"] spDueT := by
  refine okG F sc__law_due (fun vs H Q E h => ?_) (fun cdv A outer s H vs Q E hgd hr h => ?_)
  · obtain ⟨p, x, y, z, dx, dy, dz, rfl, _⟩ := h
    rfl
  · obtain ⟨p, x, y, z, dx, dy, dz, rfl, hp, hx, hy, hz, k⟩ := h
    refine ⟨_, PSs.nox ((pss_cons (ps_set (i := 1) sc__law_due.nd rfl (Or.inl rfl) (pe_hs h__law_radio_fault hr rfl (pa_cons (pe_ix ix_list (pv 0) pe_int (fun _ _ => rfl)) pa_nil)))
  (pss_cons (ps_if (pt_cmpR op_ne (pv 1) (pe_un un_neg pe_int) (nomark _))
  (pss_one (ps_ret (pe_op op_add_str pe_str (pe_callB (call_repr hgd hr.units) rfl m_repr (by decide +kernel) (pa_cons (pv 1) pa_nil)))))
  pss_nil)
  (pss_cons (ps_if (PW.pt (pw_or (pt_not (pt_val (pe_callB call_isi rfl m_isinstance (by decide +kernel) (pa_cons (pe_ix ix_list (pv 0) pe_int (fun _ _ => rfl)) (pa_cons (pe_bltn (v := .ty "int") (u := .type "int") rfl m_int (by decide +kernel) rfl) pa_nil))))) (pw_or1 (pt_val (pe_callB call_isi rfl m_isinstance (by decide +kernel) (pa_cons (pe_ix ix_list (pv 0) pe_int (fun _ _ => rfl)) (pa_cons (pe_bltn (v := .ty "bool") (u := .type "bool") rfl m_bool (by decide +kernel) rfl) pa_nil)))))))
  (pss_one (ps_ret pe_str))
  pss_nil)
  (pss_one (ps_ret (pe_ifExp (pt_val (pe_hs h__law_is_int hr rfl (pa_cons (pe_ix ix_list (pv 0) pe_int (fun _ _ => rfl)) (pa_cons pe_int pa_nil)))) pe_str pe_str))))))), ?_⟩
    walk_at "rd"
    refine ⟨x, dx, rfl, hx, fun H1 e1 => ?_⟩
    have hp1 := Evl.ex_rd e1 hp
    walk_at "rd"
    cases hf : fault dx with
    | some f =>
      have hs : scal (lawV (some f)) (.int (-1)) = true := by cases f <;> rfl
      have hv : (!decide (lawV (some f) = .int (-1))) = true := by
        cases f with
        | none => rfl
        | some i =>
          have : ¬ lawV (some (some i)) = .int (-1) := fun z => by
            have : (i : Int) = -1 := by simpa [lawV] using z
            omega
          simp [this]
      refine go_ne hs ?_
      rw [hv]
      refine ⟨_, rfl, iteT ?_⟩
      have hfv : lawV (some f) = fltV f := by cases f <;> rfl
      obtain ⟨f1, f2⟩ := flt_fine hf
      walk_at "rd"
      rw [hfv]
      refine go_repr (dq_flt _ f) f1 (by decide) (by decide) ?_
      refine go_addS f2 ?_
      have := k H1 e1
      unfold dueT at this
      rw [hf] at this
      exact this
    | none =>
      refine go_ne rfl ?_
      refine ⟨_, rfl, ite2 (fun c => by cases c) (fun _ => ?_)⟩
      walk_at "rd"
      refine go_isi (hy.ex e1) (kit_int dy) ?_
      walk_at "rd"
      have fin : ∀ H', Ex H H' → (b : Bool) → isInt dy = b → Q (.str (if b then (if isNat dz then "" else "InvalidSignal") else "InvalidDial")) H' := fun H' e b hb => by
        have := k H' e
        unfold dueT at this
        rw [hf, hb] at this
        exact this
      have bad : pInt dy = false ∨ pBool dy = true → ∀ H', Ex H H' → Q (.str "InvalidDial") H' := fun h H' e => fin H' e false (by cases dy <;> simp [pInt, pBool, isInt] at h ⊢)
      cases hi : pInt dy with
      | false =>
        refine iteT (iteT ?_)
        walk_at "rd"
        exact bad (.inl hi) _ e1
      | true =>
        refine iteF ?_
        walk_at "rd"
        refine go_isi (hy.ex e1) (kit_bool dy) ?_
        walk_at "rd"
        cases hb : pBool dy with
        | true =>
          refine iteT ?_
          walk_at "rd"
          exact bad (.inr hb) _ e1
        | false =>
          refine iteF ?_
          have hI : isInt dy = true := by cases dy <;> simp [pInt, pBool, isInt] at hi hb ⊢
          walk_at "rd"
          refine ge_go (hz.ex e1) fun H2 e2 => ?_
          rw [ge_nat]
          have := fin H2 (e1.trans e2) true hI
          cases hn : isNat dz with
          | true =>
            rw [hn] at this
            refine ⟨_, rfl, iteT ?_⟩
            walk_at "rd"
            exact this
          | false =>
            rw [hn] at this
            refine ⟨_, rfl, iteF ?_⟩
            walk_at "rd"
            exact this
abbrev s__law_told : Stmt := top 34
theorem sc__law_told : FnScope ["word", "args", "told", "is_known", "e"] ["word", "args"] (defScope s__law_told) := ⟨rfl, rfl, rfl, by decide +kernel, rfl, by decide +kernel, by decide +kernel⟩
theorem ok_law_told {f : Addr} {fd : FuncData} (F : Fun K "_law_told" "_law_told" s__law_told f fd) (T_InvalidReceiver : SupX.ErrTxt P K mg "InvalidReceiver" "index" CR fI) (g_InvalidReceiver : mg "InvalidReceiver" = some (.ref CR)) (g_InvalidDial : mg "InvalidDial" = some (.ref CD)) (g_InvalidSignal : mg "InvalidSignal" = some (.ref CS)) (g_InvalidNumber : mg "InvalidNumber" = some (.ref CN)) (g_ToneError : mg "ToneError" = some (.ref CT0))
    (m_repr : mg "repr" = none) (m_isinstance : mg "isinstance" = none) (h__law_call : HasX P w K mg base 8 "_law_call" (spCallE CR CD CS))
    (xDR : PySem.W.exmOne K (.ref CD) (.ref CR) = some false) (xDD : PySem.W.exmOne K (.ref CD) (.ref CD) = some true) (xSR : PySem.W.exmOne K (.ref CS) (.ref CR) = some false) (xSD : PySem.W.exmOne K (.ref CS) (.ref CD) = some false) (xSS : PySem.W.exmOne K (.ref CS) (.ref CS) = some true)
    (eR : ExcC K CR) (eD : ExcC K CD) (eS : ExcC K CS) (kR : PySem.W.kitOne K (.ref CR) (.ref CT0) = some true) (kD : PySem.W.kitOne K (.ref CD) (.ref CT0) = some true) (kS : PySem.W.kitOne K (.ref CS) (.ref CT0) = some true) :
    FnG P w K mg base CX0 9 f fd ["word", "args"] spToldT := by
  refine okG F sc__law_told (fun vs H Q E h => ?_) (fun cdv A outer s H vs Q E hgd hr h => ?_)
  · obtain ⟨word, p, x, y, z, dx, dy, dz, rfl, _⟩ := h
    rfl
  · obtain ⟨word, p, x, y, z, dx, dy, dz, rfl, hp, hx, hy, hz, k⟩ := h
    refine ⟨_, PSs.nox ((pss_cons (ps_asg (pe_tup (pa_cons pe_str (pa_cons pe_bl pa_nil))) (pg_tup (by rfl) (pgs_cons (pg_name (i := 2) sc__law_told.nd rfl (Or.inl rfl)) (pgs_cons (pg_name (i := 3) sc__law_told.nd rfl (Or.inl rfl)) pgs_nil))))
  (pss_cons (ps_try_allN (i := 4) rfl rfl sc__law_told.nd rfl rfl takes0N (fun W pn xe tk _ => (pss_one (ps_expr (pe_hsS h__law_call hr rfl (fun σ => L2N.passAt tk σ) (pa_cons (pv 0) (pa_cons (pv 1) pa_nil)))))) (.cons ⟨rfl, by decide, .inl g_InvalidReceiver⟩ (fun a oe cls d pn hz hf => (pss_one (ps_parH (i := 2) (j := 3) (hotC_of hz hf) sc__law_told.nd rfl rfl (by decide) rfl rfl (pa_cons (pe_op op_add_str pe_str (pe_callB (call_repr hgd hr.units) rfl m_repr (by decide +kernel) (pa_cons (pe_byErr T_InvalidReceiver hz.zc hf (pv 4)) pa_nil))) (pa_cons (pe_callB (call_isH hz.zc hf) rfl m_isinstance (by decide +kernel) (pa_cons (pv 4) (pa_cons (pe_glob (v := V.ref _) rfl g_ToneError rfl) pa_nil))) pa_nil)) (by rfl))))
  (.cons ⟨rfl, by decide, .inl g_InvalidDial⟩ (fun a oe cls d pn hz hf => (pss_one (ps_parH (i := 2) (j := 3) (hotC_of hz hf) sc__law_told.nd rfl rfl (by decide) rfl rfl (pa_cons pe_str (pa_cons (pe_callB (call_isH hz.zc hf) rfl m_isinstance (by decide +kernel) (pa_cons (pv 4) (pa_cons (pe_glob (v := V.ref _) rfl g_ToneError rfl) pa_nil))) pa_nil)) (by rfl))))
  (.cons ⟨rfl, by decide, .inl g_InvalidSignal⟩ (fun a oe cls d pn hz hf => (pss_one (ps_parH (i := 2) (j := 3) (hotC_of hz hf) sc__law_told.nd rfl rfl (by decide) rfl rfl (pa_cons pe_str (pa_cons (pe_callB (call_isH hz.zc hf) rfl m_isinstance (by decide +kernel) (pa_cons (pv 4) (pa_cons (pe_glob (v := V.ref _) rfl g_ToneError rfl) pa_nil))) pa_nil)) (by rfl))))
  (.cons ⟨rfl, by decide, .inl g_InvalidNumber⟩ (fun a oe cls d pn hz hf => (pss_one (ps_parH (i := 2) (j := 3) (hotC_of hz hf) sc__law_told.nd rfl rfl (by decide) rfl rfl (pa_cons pe_str (pa_cons (pe_callB (call_isH hz.zc hf) rfl m_isinstance (by decide +kernel) (pa_cons (pv 4) (pa_cons (pe_glob (v := V.ref _) rfl g_ToneError rfl) pa_nil))) pa_nil)) (by rfl))))
  .nil)))))
  (pss_one (ps_ret (pe_ifExp (pt_val (pv 3)) (pv 2) pe_str)))))), ?_⟩
    walk_at "rd"
    intro t ht
    refine go_gtup (.inl (.inl upd_same)) rfl ?_
    walk_at "rd"
    refine go_callS ?_
    walk_at "rd"
    have e0 : Ex H (upd H t (HO.tup [V.str "", V.bl true])) := Ex.new ht
    have due : ∀ {a : Str}, dueT dx dy dz = a → ∀ H', Ex H H' → Q (.str a) H' := fun e H' h => e ▸ k H' h
    refine ⟨word, p, x, y, z, dx, dy, dz, rfl, Evl.ex_rd e0 hp, hx.ex e0, hy.ex e0, hz.ex e0, fun f0 hf0 H' dd e1 hn hdd => ?_, fun h0 h1 H' e1 => ?_, fun h0 h1 h2 H' e1 => ?_, fun h0 h1 h2 H' e1 => ?_⟩
    · refine wAll_yes T_InvalidReceiver.te fun xe hxe => ?_
      obtain ⟨f1, f2⟩ := flt_fine hf0
      walk_at "rd"
      refine go_byErr ?_
      walk_at "rd"
      · exact rfl
      refine ⟨dd, _, rfl, hdd, ?_⟩
      walk_at "rd"
      refine go_repr (dq_flt _ f0) f1 (by decide) (by decide) ?_
      refine ⟨_, _, rfl, rfl, f2, ?_⟩
      walk_at "rd"
      refine go_isH (.own _) eR (fun dx z => by cases z; exact ⟨_, hdd⟩) kR ?_
      walk_at "rd"
      refine go_clr ?_
      walk_at "rd"
      refine iteT ?_
      walk_at "rd"
      exact due (by unfold dueT; rw [hf0]) _ (e0.trans e1)
    · refine wAll_no xDR (wAll_yes xDD fun xe hxe => ?_)
      walk_at "rd"
      refine go_isH (.own _) eD (fun _ z => nomatch z) kD ?_
      walk_at "rd"
      refine go_clr ?_
      walk_at "rd"
      refine iteT ?_
      walk_at "rd"
      exact due (by unfold dueT; rw [h0, h1]; rfl) _ (e0.trans e1)
    · refine wAll_no xSR (wAll_no xSD (wAll_yes xSS fun xe hxe => ?_))
      walk_at "rd"
      refine go_isH (.own _) eS (fun _ z => nomatch z) kS ?_
      walk_at "rd"
      refine go_clr ?_
      walk_at "rd"
      refine iteT ?_
      walk_at "rd"
      exact due (by unfold dueT; rw [h0, h1, h2]; rfl) _ (e0.trans e1)
    · walk_at "rd"
      refine iteT ?_
      walk_at "rd"
      exact due (by unfold dueT; rw [h0, h1, h2]; rfl) _ (e0.trans e1)
end
end Kx

set_option Elab.async false
set_option linter.all false
set_option maxRecDepth 100000
set_option maxHeartbeats 4000000

namespace Kx
open PySem PySem.Spec PyProof.Rows L2 HX
open Evl (Ex)
local macro_rules | `(tactic| walk_at "side") => `(tactic| first | assumption | ((try dsimp only); first | assumption | decide +kernel | omega | exact ⟨by decide, by decide⟩ | (left; decide) | (left; omega) | (refine Or.inl ⟨?_, ?_⟩ <;> omega) | (refine Or.inr ⟨?_, ?_⟩ <;> omega)))
local macro_rules | `(tactic| walk_at "heap") => `(tactic| first | assumption | exact upd_same | exact Or.inl (by assumption) | exact Or.inl upd_same)
local macro_rules | `(tactic| walk_at "item") => `(tactic| first | exact rfl | exact atI_nat (j := 0) rfl | exact atI_nat (j := 1) rfl | exact atI_nat (j := 2) rfl | assumption)
local macro_rules | `(tactic| walk_at "rd") => `(tactic| repeat (first
  | ((with_reducible refine' go_var ?hv ?_); (case hv => exact rfl))
  | with_reducible refine' go_c ?_
  | with_reducible refine' go_op ?_
  | with_reducible refine' go_seq ?_
  | with_reducible refine' go_asg ?_
  | with_reducible refine' go_name ?_
  | with_reducible refine' go_cons ?_
  | with_reducible refine' go_nil ?_
  | with_reducible refine' go_cb ?_
  | with_reducible refine' go_call ?_
  | with_reducible refine' go_ifS ?_
  | with_reducible refine' go_test ?_
  | with_reducible refine' go_bl ?_
  | with_reducible refine' go_ret ?_
  | with_reducible refine' go_I0 ?_
  | ((with_reducible refine' go_I ?cc ?_); (case cc => walk_at "side"))
  | ((with_reducible refine' go_ixL ?hh ?hk ?_); (case hh => walk_at "heap"); (case hk => walk_at "item"))
  | ((with_reducible refine' go_ixT ?hh ?hk ?_); (case hh => walk_at "heap"); (case hk => walk_at "item"))
  | ((with_reducible refine' go_lenL ?hh ?_); (case hh => walk_at "heap"))
  | ((with_reducible refine' go_lenT ?hh ?_); (case hh => walk_at "heap"))
  | ((with_reducible refine' go_setL ?hh ?hk ?_); (case hh => walk_at "heap"); (case hk => walk_at "item"))
  | with_reducible refine' go_abs ?_
  | with_reducible refine' go_max ?_
  | with_reducible refine' go_min ?_
  | with_reducible refine' go_int ?_
  | with_reducible refine' go_intB ?_
  | (with_reducible refine' go_eq rfl ?_)
  | (with_reducible refine' go_ne rfl ?_)
  | with_reducible refine' go_isN ?_
  | with_reducible refine' go_notN ?_
  | with_reducible refine' go_if ?_
  | with_reducible refine' go_sub ?_
  | with_reducible refine' go_par ?_
  | with_reducible refine' go_sl ?_
  | with_reducible refine' go_part ?_
  | with_reducible refine' go_pint ?_
  | with_reducible refine' go_nopart ?_
  | ((with_reducible refine' go_lenL ?hh ?_); (case hh => walk_at "heap"))
  | ((with_reducible refine' go_lenT ?hh ?_); (case hh => walk_at "heap"))
  | ((with_reducible refine' go_lenS ?hh ?_); (case hh => assumption))
  | with_reducible refine' go_gcons ?_
  | with_reducible refine' go_gnil ?_
  | with_reducible refine' go_kw ?_
  | with_reducible refine' go_par2 ?_
  | with_reducible refine' go_next ?_
  | with_reducible refine' go_drop ?_
  | with_reducible refine' go_and ?_
  | with_reducible refine' go_or ?_
  | with_reducible refine' go_not ?_
  | with_reducible refine' go_B ?_
  | with_reducible refine' go_andV ?_
  | with_reducible refine' go_orV ?_
  | with_reducible refine' go_notV ?_
  | with_reducible refine' go_chain ?_
  | with_reducible refine' go_un ?_
  | with_reducible refine' go_U ?_
  | with_reducible refine' go_bm ?_
  | with_reducible refine' go_tup ?_
  | with_reducible refine' go_lst ?_
  | with_reducible refine' go_forR1 ?_
  | with_reducible refine' go_forR2 ?_
  | with_reducible refine' go_forL ?_
  | with_reducible refine' go_forT ?_
  | with_reducible refine' go_forE ?_
  | with_reducible refine' go_lcR1 ?_
  | with_reducible refine' go_lcL ?_
  | with_reducible refine' go_lcT ?_
  | ((with_reducible refine' go_tyL ?hh ?_); (case hh => walk_at "heap"))
  | ((with_reducible refine' go_new ?hz ?_); (case hz => exact Nat.le_of_ble_eq_true rfl))
  | (with_reducible refine' ⟨_, rfl, ?_⟩)
  ))
--MACEND
theorem fine3 {wa wb wc k : Nat} {a b c : PyData} (ha : Fine wa k a) (hb : Fine wb k b) (hc : Fine wc k c) : Fine (wa + wb + wc + 3) (k + 1) (.list [a, b, c]) := by
  obtain ⟨a1, a2, a3, a4⟩ := ha
  obtain ⟨b1, b2, b3, b4⟩ := hb
  obtain ⟨c1, c2, c3, c4⟩ := hc
  refine ⟨?_, ?_, ?_, ?_⟩
  · simp [PyData.showable, PyData.showableAll, a1, b1, c1]
  · simp [PyData.leavesShort, PyData.leavesShortAll, a2, b2, c2]
  · simp [PyData.weight, PyData.weightAll]; omega
  · simp [PyData.depth, PyData.depthAll]; omega
/-- what stands in a place of the wrong values -/
def Bads (K : PySem.W.Frag) (w k : Nat) (H : Hp) (p : Addr) : Prop := ∃ (ws : List V) (ds : List PyData), H p = some (.lst ws) ∧ DqAll H ws ds ∧ ∀ d ∈ ds, Fine w k d
theorem Bads.ex {K : PySem.W.Frag} {w k : Nat} {H H' : Hp} {p : Addr} (e : Ex H H') : Bads K w k H p → Bads K w k H' p := fun ⟨ws, ds, h1, h2, h3⟩ => ⟨ws, ds, e _ _ h1, h2.ex e, h3⟩
def spAlone (K : PySem.W.Frag) : Sp := fun vs H Q _ => ∃ (word : Str) (g b b0 b1 b2 : Addr) (x y z : V) (dx dy dz : PyData), vs = [.str word, .ref g, .ref b] ∧ H g = some (.lst [x, y, z]) ∧ H b = some (.lst [.ref b0, .ref b1, .ref b2]) ∧
  Dq H x dx ∧ Dq H y dy ∧ Dq H z dz ∧ fault dx = none ∧ isInt dy = true ∧ isNat dz = true ∧ Fine 40000 3 dx ∧ Fine 600 0 dy ∧ Fine 600 0 dz ∧ Bads K 78100 10 H b0 ∧ Bads K 600 2 H b1 ∧ Bads K 600 2 H b2 ∧ ∀ H', Ex H H' → Q (.bl true) H'
def fits (i : Nat) (d : PyData) : Prop := (i = 0 → Fine 78100 10 d) ∧ (i ≠ 0 → Fine 600 2 d)
structure Good (H : Hp) (x y z : V) (dx dy dz : PyData) : Prop where
  hx : Dq H x dx
  hy : Dq H y dy
  hz : Dq H z dz
  f0 : fault dx = none
  i0 : isInt dy = true
  n0 : isNat dz = true
  fx : Fine 40000 3 dx
  fy : Fine 600 0 dy
  fz : Fine 600 0 dz
theorem Good.ex {H H' : Hp} {x y z : V} {dx dy dz : PyData} (e : Ex H H') (g : Good H x y z dx dy dz) : Good H' x y z dx dy dz := { g with hx := g.hx.ex e, hy := g.hy.ex e, hz := g.hz.ex e }
theorem Good.due {H : Hp} {x y z : V} {dx dy dz : PyData} (g : Good H x y z dx dy dz) : dueT dx dy dz = "" := by
  unfold dueT
  rw [g.f0, g.i0, g.n0]
  rfl
/-- three arguments, as they stand in the list -/
structure Args3 (H : Hp) (xs : List V) (t : Str) : Prop where
  ex : ∃ x y z dx dy dz, xs = [x, y, z] ∧ Dq H x dx ∧ Dq H y dy ∧ Dq H z dz ∧ dueT dx dy dz = t
def cut1 (xs : List V) (i : Int) (t : V) : List V := cutV xs none (some i) ++ [t] ++ cutV xs (some (i + 1)) none
def cut2 (xs : List V) (i : Int) : List V := cutV xs none (some (i + 1)) ++ (List.replicate ((xs.length : Int) - i - 1).toNat [V.non]).flatten
theorem put_facts {H : Hp} {x y z t : V} {dx dy dz d : PyData} {i : Nat} (g : Good H x y z dx dy dz) (ht : Dq H t d) (hi : i < 3) (hf : fits i d) :
    ∃ (l : PyData) (w : Str), ∀ H', Ex H H' → ∃ (x1 y1 z1 : V) (d1 d2 d3 : PyData), cut1 [x, y, z] i t = [x1, y1, z1] ∧ Dq H' x1 d1 ∧ Dq H' y1 d2 ∧ Dq H' z1 d3 ∧ dueT d1 d2 d3 = w ∧ l = .list [d1, d2, d3] ∧ Fine 80000 11 l ∧
      (cutV [x, y, z] none (some (i : Int))).length ≤ 3 ∧ (cutV [x, y, z] (some ((i : Int) + 1)) none).length ≤ 3 ∧ (cutV [x1, y1, z1] none (some ((i : Int) + 1))).length ≤ 3 ∧ (3 : Int) - i - 1 ≤ 3 ∧ 0 ≤ (3 : Int) - i - 1 ∧
      (w ≠ "" → Args3 H' (cut2 [x1, y1, z1] i) w) ∧ ∃ x2 y2 z2, cut2 [x1, y1, z1] i = [x2, y2, z2] := by
  obtain ⟨hx, hy, hz, f0, i0, n0, fx, fy, fz⟩ := g
  match i, hi with
  | 0, _ =>
    refine ⟨_, _, fun H' e => ⟨t, y, z, d, dy, dz, rfl, ht.ex e, hy.ex e, hz.ex e, rfl, rfl, (fine3 (hf.1 rfl) (fy.mono (Nat.le_refl _) (by decide)) (fz.mono (Nat.le_refl _) (by decide))).mono (by decide) (by decide), ?_, ?_, ?_, by decide, by decide, fun h => ⟨t, .non, .non, d, .none, .none, rfl, ht.ex e, .non, .non, ?_⟩, _, _, _, rfl⟩⟩
    · exact Nat.le_of_ble_eq_true rfl
    · exact Nat.le_of_ble_eq_true rfl
    · exact Nat.le_of_ble_eq_true rfl
    · cases q : fault d with
      | none => exact absurd (by unfold dueT; rw [q, i0, n0]; rfl) h
      | some f => unfold dueT; rw [q]
  | 1, _ =>
    refine ⟨_, _, fun H' e => ⟨x, t, z, dx, d, dz, rfl, hx.ex e, ht.ex e, hz.ex e, rfl, rfl, (fine3 (fx.mono (Nat.le_refl _) (by decide)) ((hf.2 (by decide)).mono (Nat.le_refl _) (by decide)) (fz.mono (Nat.le_refl _) (by decide)) (k := 3)).mono (by decide) (by decide), ?_, ?_, ?_, by decide, by decide, fun h => ⟨x, t, .non, dx, d, .none, rfl, hx.ex e, ht.ex e, .non, ?_⟩, _, _, _, rfl⟩⟩
    · exact Nat.le_of_ble_eq_true rfl
    · exact Nat.le_of_ble_eq_true rfl
    · exact Nat.le_of_ble_eq_true rfl
    · cases q : isInt d with
      | true => exact absurd (by unfold dueT; rw [f0, q, n0]; rfl) h
      | false => unfold dueT; rw [f0, q]; rfl
  | 2, _ =>
    refine ⟨_, _, fun H' e => ⟨x, y, t, dx, dy, d, rfl, hx.ex e, hy.ex e, ht.ex e, rfl, rfl, (fine3 (fx.mono (Nat.le_refl _) (by decide)) (fy.mono (Nat.le_refl _) (by decide)) ((hf.2 (by decide)).mono (Nat.le_refl _) (by decide)) (k := 3)).mono (by decide) (by decide), ?_, ?_, ?_, by decide, by decide, fun h => ⟨x, y, t, dx, dy, d, rfl, hx.ex e, hy.ex e, ht.ex e, rfl⟩, _, _, _, rfl⟩⟩
    · exact Nat.le_of_ble_eq_true rfl
    · exact Nat.le_of_ble_eq_true rfl
    · exact Nat.le_of_ble_eq_true rfl
section
variable {P : Program} {w : World} {K : PySem.W.Frag} {mg : Str → Option Value} {base : Heap} {CR CD CS CN CT0 fI : Addr}
abbrev s__law_alone_right : Stmt := top 35
theorem sc__law_alone_right : FnScope ["word", "good", "bads", "spot", "wrong", "thing", "args", "due", "kept"] ["word", "good", "bads"] (defScope s__law_alone_right) := ⟨rfl, rfl, rfl, by decide +kernel, rfl, by decide +kernel, by decide +kernel⟩
theorem ok_law_alone {f : Addr} {fd : FuncData} (F : Fun K "_law_alone_right" "_law_alone_right" s__law_alone_right f fd) (m_repr : mg "repr" = none) (m_enumerate : mg "enumerate" = none) (m_len : mg "len" = none)
    (h__law_told : HasG P w K mg base 9 "_law_told" spToldT) (h__law_due : HasG P w K mg base 4 "_law_due" spDueT) :
    FnG P w K mg base CX0 10 f fd ["word", "good", "bads"] (spAlone K) := by
  refine okG F sc__law_alone_right (fun vs H Q E h => ?_) (fun cdv A outer s H vs Q E hgd hr h => ?_)
  · obtain ⟨word, g, b, b0, b1, b2, x, y, z, dx, dy, dz, rfl, _⟩ := h
    rfl
  · obtain ⟨word, g, b, b0, b1, b2, x, y, z, dx, dy, dz, rfl, hg, hb, hx, hy, hz, f0, i0, n0, fx, fy, fz, hb0, hb1, hb2, k⟩ := h
    refine ⟨_, PSs.nox ((pss_cons (ps_if (pt_cmpR op_ne (pe_hsG h__law_told hgd hr rfl (pa_cons (pv 0) (pa_cons (pv 1) pa_nil))) pe_str (nomark _))
  (pss_one (ps_ret pe_bl))
  pss_nil)
  (pss_cons (ps_for PassesOwn.never rfl (pi_enum (by rfl) m_enumerate (pa_cons (pv 2) pa_nil)) (pg_tup (by rfl) (pgs_cons (pg_name (i := 3) sc__law_alone_right.nd rfl (Or.inl rfl)) (pgs_cons (pg_name (i := 4) sc__law_alone_right.nd rfl (Or.inl rfl)) pgs_nil)))
  (pss_one (ps_for PassesOwn.never rfl (pi_list (pv 4)) (pg_name (i := 5) sc__law_alone_right.nd rfl (Or.inl rfl))
  (pss_cons (ps_set (i := 6) sc__law_alone_right.nd rfl (Or.inl rfl) (pe_op op_cat (pe_op op_cat (pe_slice sl_list (pv 1) po_none (po_some (pv 3))) (pe_lst (pa_cons (pv 5) pa_nil))) (pe_slice sl_list (pv 1) (po_some (pe_op op_add (pv 3) pe_int)) po_none)))
  (pss_cons (ps_par (i := 7) (j := 8) (by rfl) sc__law_alone_right.nd rfl rfl (by decide) rfl rfl (pa_cons (pe_hsG h__law_due hgd hr rfl (pa_cons (pv 6) pa_nil)) (pa_cons (pe_callB (call_repr hgd hr.units) rfl m_repr (by decide +kernel) (pa_cons (pv 6) pa_nil)) pa_nil)) (by rfl))
  (pss_cons (ps_if (PW.pt (pw_or (pt_cmpR op_ne (pe_hsG h__law_told hgd hr rfl (pa_cons (pv 0) (pa_cons (pv 6) pa_nil))) (pv 7) (nomark _)) (pw_or1 (pt_cmpR op_ne (pe_callB (call_repr hgd hr.units) rfl m_repr (by decide +kernel) (pa_cons (pv 6) pa_nil)) (pv 8) (nomark _)))))
  (pss_one (ps_ret pe_bl))
  pss_nil)
  (pss_cons (ps_set (i := 6) sc__law_alone_right.nd rfl (Or.inl rfl) (pe_op op_cat (pe_slice sl_list (pv 6) po_none (po_some (pe_op op_add (pv 3) pe_int))) (pe_op op_rep (pe_lst (pa_cons pe_non pa_nil)) (pe_op op_sub (pe_op op_sub (pe_callB call_lenQ rfl m_len PySem.boot_len (pa_cons (pv 6) pa_nil)) (pv 3)) pe_int))))
  (pss_one (ps_if (PW.pt (pw_and (pt_cmpR op_ne (pv 7) pe_str (nomark _)) (pw_and1 (pt_cmpR op_ne (pe_hsG h__law_told hgd hr rfl (pa_cons (pv 0) (pa_cons (pv 6) pa_nil))) (pv 7) (nomark _)))))
  (pss_one (ps_ret pe_bl))
  pss_nil)))))))))
  (pss_one (ps_ret pe_bl))))), ?_⟩
    have gd : Good H x y z dx dy dz := ⟨hx, hy, hz, f0, i0, n0, fx, fy, fz⟩
    have hbs : ∀ i v, [V.ref b0, .ref b1, .ref b2][i]? = some v → ∃ p ws ds, v = .ref p ∧ H p = some (.lst ws) ∧ DqAll H ws ds ∧ ∀ d ∈ ds, fits i d := by
      intro i v h
      match i with
      | 0 => obtain ⟨ws, ds, h1, h2, h3⟩ := hb0; cases h; exact ⟨_, ws, ds, rfl, h1, h2, fun d hd => ⟨fun _ => h3 d hd, fun z => absurd rfl z⟩⟩
      | 1 => obtain ⟨ws, ds, h1, h2, h3⟩ := hb1; cases h; exact ⟨_, ws, ds, rfl, h1, h2, fun d hd => ⟨(fun z => nomatch z), fun _ => h3 d hd⟩⟩
      | 2 => obtain ⟨ws, ds, h1, h2, h3⟩ := hb2; cases h; exact ⟨_, ws, ds, rfl, h1, h2, fun d hd => ⟨(fun z => nomatch z), fun _ => h3 d hd⟩⟩
      | n + 3 => exact absurd h (by simp)
    walk_at "rd"
    refine ⟨word, g, x, y, z, dx, dy, dz, rfl, .inl hg, hx, hy, hz, fun H1 e1 => ?_⟩
    rw [gd.due]
    walk_at "rd"
    refine ite2 (fun c => absurd c (by simp)) (fun _ => ?_)
    walk_at "rd"
    refine ⟨b, _, rfl, .inl (.inl (e1 _ _ hb)), ?_⟩
    refine run_forE [V.ref b0, .ref b1, .ref b2] (fun i σ G => ∃ v3 v4 v5 v6 v7 v8 : Option V, σ = [some (.str word), some (.ref g), some (.ref b), v3, v4, v5, v6, v7, v8] ∧ Ex H G) ?_ ?_ ?_ ?_
    · exact ⟨_, _, _, _, _, _, rfl, e1⟩
    · rintro i σ G _ ⟨_, _, _, _, _, _, rfl, e⟩
      exact .inl (.inl (e _ _ hb))
    · rintro i v σ G Tp hi ⟨v3, v4, v5, v6, v7, v8, rfl, e⟩ hT
      obtain ⟨p, ws, ds, rfl, hp, hws, hfs⟩ := hbs i v hi
      have i3 : i < 3 := (List.getElem?_eq_some_iff.mp hi).1
      have e2 := e.trans (Ex.new (o := HO.tup [.int (i : Nat), .ref p]) hT)
      refine go_gtup (.inl (.inl upd_same)) rfl ?_
      walk_at "rd"
      refine ⟨⟨ws, .inl (.inl (e2 _ _ hp))⟩, ?_⟩
      refine run_forL ws (fun j σ G => ∃ v5 v6 v7 v8 : Option V, σ = [some (.str word), some (.ref g), some (.ref b), some (.int (i : Nat)), some (.ref p), v5, v6, v7, v8] ∧ Ex H G) ?_ ?_ ?_ ?_
      · exact ⟨_, _, _, _, rfl, e2⟩
      · rintro j σ G1 _ ⟨_, _, _, _, rfl, e3⟩
        exact .inl (.inl (e3 _ _ hp))
      · rintro j t σ G1 hj ⟨w5, w6, w7, w8, rfl, e3⟩
        obtain ⟨d, hd, ht⟩ := hws.get hj
        obtain ⟨l, tx, put⟩ := put_facts gd ht i3 (hfs d (List.mem_of_getElem? hd))
        walk_at "rd"
        obtain ⟨x1, y1, z1, d1, d2, d3, hc1, q1, q2, q3, hdu, hl, fl, n1, n2, n3, n4, n5, hw2, hc2⟩ := put G1 e3
        have ss : sizeLine = 16777216 := sizeLine_eq
        refine go_slL (.inl (e3 _ _ hg)) fun p1 np1 => ?_
        have a1 := Ex.new (o := HO.lst (cutV [x, y, z] none (some (i : Int)))) np1
        walk_at "rd"
        intro p2 np2
        have a2 := Ex.new (o := HO.lst [t]) np2
        refine go_cat (a2 _ _ upd_same) upd_same (by rw [ss]; simp only [List.length_cons, List.length_nil]; omega) fun p3 np3 => ?_
        have a3 := Ex.new (o := HO.lst (cutV [x, y, z] none (some (i : Int)) ++ [t])) np3
        walk_at "rd"
        have b3 := (a1.trans a2).trans a3
        refine go_slL (.inl (b3 _ _ (e3 _ _ hg))) fun p4 np4 => ?_
        have a4 := Ex.new (o := HO.lst (cutV [x, y, z] (some ((i : Int) + 1)) none)) np4
        refine go_cat (a4 _ _ upd_same) upd_same (by rw [ss]; simp only [List.length_append, List.length_cons, List.length_nil]; omega) fun p5 np5 => ?_
        rw [show cutV [x, y, z] none (some (i : Int)) ++ [t] ++ cutV [x, y, z] (some ((i : Int) + 1)) none = [x1, y1, z1] from hc1]
        have a5 := Ex.new (o := HO.lst [x1, y1, z1]) np5
        have b5 := (b3.trans a4).trans a5
        have e5 := e3.trans b5
        walk_at "rd"
        refine ⟨p5, x1, y1, z1, d1, d2, d3, rfl, .inl upd_same, q1.ex b5, q2.ex b5, q3.ex b5, fun H6 e6 => ?_⟩
        rw [hdu]
        have h6 := e6 _ _ (show (upd _ p5 (HO.lst [x1, y1, z1]) : Hp) p5 = _ from upd_same)
        have b6 := b5.trans e6
        walk_at "rd"
        subst hl
        have dl6 : Dq H6 (.ref p5) (.list [d1, d2, d3]) := .lst (.inl h6) (.cons (q1.ex b6) (.cons (q2.ex b6) (.cons (q3.ex b6) .nil)))
        refine go_repr dl6 fl (by decide) (by decide) ?_
        walk_at "rd"
        refine ⟨word, p5, x1, y1, z1, d1, d2, d3, rfl, .inl h6, q1.ex b6, q2.ex b6, q3.ex b6, fun H7 e7 => ?_⟩
        rw [hdu]
        walk_at "rd"
        refine ite2 (fun c => absurd c (by simp)) (fun _ => ?_)
        walk_at "rd"
        refine go_repr (dl6.ex e7) fl (by decide) (by decide) ?_
        walk_at "rd"
        refine ite2 (fun c => absurd c (by simp)) (fun _ => ?_)
        walk_at "rd"
        have h7 := e7 _ _ h6
        have b7 := b6.trans e7
        refine go_slL (.inl h7) fun p6 np6 => ?_
        have a6 := Ex.new (o := HO.lst (cutV [x1, y1, z1] none (some ((i : Int) + 1)))) np6
        walk_at "rd"
        intro p7 np7
        have a7 := Ex.new (o := HO.lst [V.non]) np7
        walk_at "rd"
        refine go_lenL (.inl ((a6.trans a7) _ _ h7)) ?_
        walk_at "rd"
        obtain ⟨x2, y2, z2, hc2⟩ := hc2
        refine go_rep (xs := [.non]) upd_same ⟨by simp only [List.length_cons, List.length_nil]; omega, by simp only [List.length_cons, List.length_nil]; omega⟩ (by rw [ss]; simp only [List.length_cons, List.length_nil]; omega) fun p8 np8 => ?_
        have a8 := Ex.new (o := HO.lst (List.replicate ((([x1, y1, z1] : List V).length : Int) - i - 1).toNat [V.non]).flatten) np8
        refine go_cat ((a7.trans a8) _ _ upd_same) upd_same (by rw [ss, List.length_flatten]; simp only [List.map_replicate, List.sum_replicate_nat, List.length_cons, List.length_nil]; omega) fun p9 np9 => ?_
        rw [show cutV [x1, y1, z1] none (some ((i : Int) + 1)) ++ (List.replicate ((([x1, y1, z1] : List V).length : Int) - i - 1).toNat [V.non]).flatten = [x2, y2, z2] from hc2]
        have a9 := Ex.new (o := HO.lst [x2, y2, z2]) np9
        have b9 := (((b7.trans a6).trans a7).trans a8).trans a9
        walk_at "rd"
        have e9 := e3.trans b9
        refine ite2 (fun c => ?_) (fun _ => ?_)
        · have ne : tx ≠ "" := fun z => by rw [z] at c; simp at c
          obtain ⟨⟨xa, ya, za, da, db, dc, exs, r1, r2, r3, rdu⟩⟩ := hw2 ne
          obtain ⟨rfl, rfl, rfl⟩ : x2 = xa ∧ y2 = ya ∧ z2 = za := by simpa using hc2.symm.trans exs
          walk_at "rd"
          refine ⟨word, p9, x2, y2, z2, da, db, dc, rfl, .inl upd_same, r1.ex b9, r2.ex b9, r3.ex b9, fun H9 e10 => ?_⟩
          rw [rdu]
          walk_at "rd"
          refine ite2 (fun c => absurd c (by simp)) (fun _ => ?_)
          exact ⟨_, _, _, _, rfl, e9.trans e10⟩
        · walk_at "rd"
          exact ⟨_, _, _, _, rfl, e9⟩
      · rintro σ G1 ⟨_, _, _, _, rfl, e3⟩
        exact ⟨_, _, _, _, _, _, rfl, e3⟩
    · rintro σ G ⟨_, _, _, _, _, _, rfl, e⟩
      walk_at "rd"
      exact k _ e
end
end Kx

set_option Elab.async false
set_option linter.all false
set_option maxRecDepth 100000
set_option maxHeartbeats 4000000

namespace Kx
open PySem PySem.Spec PyProof.Rows L2 HX
open Evl (Ex)
local macro_rules | `(tactic| walk_at "side") => `(tactic| first | assumption | ((try dsimp only); first | assumption | decide +kernel | omega | exact ⟨by decide, by decide⟩ | (left; decide) | (left; omega) | (refine Or.inl ⟨?_, ?_⟩ <;> omega) | (refine Or.inr ⟨?_, ?_⟩ <;> omega)))
local macro_rules | `(tactic| walk_at "heap") => `(tactic| first | assumption | exact upd_same | exact Or.inl (by assumption) | exact Or.inl upd_same)
local macro_rules | `(tactic| walk_at "item") => `(tactic| first | exact rfl | exact atI_nat (j := 0) rfl | exact atI_nat (j := 1) rfl | exact atI_nat (j := 2) rfl | assumption)
local macro_rules | `(tactic| walk_at "rd") => `(tactic| repeat (first
  | ((with_reducible refine' go_var ?hv ?_); (case hv => exact rfl))
  | with_reducible refine' go_c ?_
  | with_reducible refine' go_op ?_
  | with_reducible refine' go_seq ?_
  | with_reducible refine' go_asg ?_
  | with_reducible refine' go_name ?_
  | with_reducible refine' go_cons ?_
  | with_reducible refine' go_nil ?_
  | with_reducible refine' go_cb ?_
  | with_reducible refine' go_call ?_
  | with_reducible refine' go_ifS ?_
  | with_reducible refine' go_test ?_
  | with_reducible refine' go_bl ?_
  | with_reducible refine' go_ret ?_
  | with_reducible refine' go_I0 ?_
  | ((with_reducible refine' go_I ?cc ?_); (case cc => walk_at "side"))
  | ((with_reducible refine' go_ixL ?hh ?hk ?_); (case hh => walk_at "heap"); (case hk => walk_at "item"))
  | ((with_reducible refine' go_ixT ?hh ?hk ?_); (case hh => walk_at "heap"); (case hk => walk_at "item"))
  | ((with_reducible refine' go_lenL ?hh ?_); (case hh => walk_at "heap"))
  | ((with_reducible refine' go_lenT ?hh ?_); (case hh => walk_at "heap"))
  | ((with_reducible refine' go_setL ?hh ?hk ?_); (case hh => walk_at "heap"); (case hk => walk_at "item"))
  | with_reducible refine' go_abs ?_
  | with_reducible refine' go_max ?_
  | with_reducible refine' go_min ?_
  | with_reducible refine' go_int ?_
  | with_reducible refine' go_intB ?_
  | (with_reducible refine' go_eq rfl ?_)
  | (with_reducible refine' go_ne rfl ?_)
  | with_reducible refine' go_isN ?_
  | with_reducible refine' go_notN ?_
  | with_reducible refine' go_if ?_
  | with_reducible refine' go_sub ?_
  | with_reducible refine' go_par ?_
  | with_reducible refine' go_sl ?_
  | with_reducible refine' go_part ?_
  | with_reducible refine' go_pint ?_
  | with_reducible refine' go_nopart ?_
  | ((with_reducible refine' go_lenL ?hh ?_); (case hh => walk_at "heap"))
  | ((with_reducible refine' go_lenT ?hh ?_); (case hh => walk_at "heap"))
  | ((with_reducible refine' go_lenS ?hh ?_); (case hh => assumption))
  | with_reducible refine' go_gcons ?_
  | with_reducible refine' go_gnil ?_
  | with_reducible refine' go_kw ?_
  | with_reducible refine' go_par2 ?_
  | with_reducible refine' go_next ?_
  | with_reducible refine' go_drop ?_
  | with_reducible refine' go_and ?_
  | with_reducible refine' go_or ?_
  | with_reducible refine' go_not ?_
  | with_reducible refine' go_B ?_
  | with_reducible refine' go_andV ?_
  | with_reducible refine' go_orV ?_
  | with_reducible refine' go_notV ?_
  | with_reducible refine' go_chain ?_
  | with_reducible refine' go_un ?_
  | with_reducible refine' go_U ?_
  | with_reducible refine' go_bm ?_
  | with_reducible refine' go_tup ?_
  | with_reducible refine' go_lst ?_
  | with_reducible refine' go_forR1 ?_
  | with_reducible refine' go_forR2 ?_
  | with_reducible refine' go_forL ?_
  | with_reducible refine' go_forT ?_
  | with_reducible refine' go_forE ?_
  | with_reducible refine' go_lcR1 ?_
  | with_reducible refine' go_lcL ?_
  | with_reducible refine' go_lcT ?_
  | ((with_reducible refine' go_tyL ?hh ?_); (case hh => walk_at "heap"))
  | ((with_reducible refine' go_new ?hz ?_); (case hz => exact Nat.le_of_ble_eq_true rfl))
  | (with_reducible refine' ⟨_, rfl, ?_⟩)
  ))
--MACEND
theorem fine_stg {b : Int} {s : Stg} (h : s.ok b) (hb : b ≤ 2 ^ 500) : Fine 1900 1 s.d := by
  have m1 : Fine 600 0 (.str "mix") := .str (by decide +kernel) (by decide +kernel)
  have m2 : Fine 600 0 (.str "dial") := .str (by decide +kernel) (by decide +kernel)
  have m3 : Fine 600 0 (.str "pass") := .str (by decide +kernel) (by decide +kernel)
  cases s with
  | mix lo =>
    have h1 := h.1
    have h2 := h.2
    refine (Fine.tuple (w := 600) (k := 0) (l := [.str "mix", .int lo]) fun x hx => ?_).mono (Nat.le_of_ble_eq_true rfl) (by decide)
    rcases List.mem_cons.mp hx with rfl | hx
    · exact m1
    · rw [List.mem_singleton.mp hx]; exact .int (by omega)
  | dial lo =>
    have h1 := h.1
    have h2 := h.2
    refine (Fine.tuple (w := 600) (k := 0) (l := [.str "dial", .int lo]) fun x hx => ?_).mono (Nat.le_of_ble_eq_true rfl) (by decide)
    rcases List.mem_cons.mp hx with rfl | hx
    · exact m2
    · rw [List.mem_singleton.mp hx]; exact .int (by omega)
  | pass lo hi =>
    have h1 := h.1
    have h2 := h.2.1
    have h3 := h.2.2
    refine (Fine.tuple (w := 600) (k := 0) (l := [.str "pass", .int lo, .int hi]) fun x hx => ?_).mono (Nat.le_of_ble_eq_true rfl) (by decide)
    rcases List.mem_cons.mp hx with rfl | hx
    · exact m3
    rcases List.mem_cons.mp hx with rfl | hx
    · exact .int (by omega)
    · rw [List.mem_singleton.mp hx]; exact .int (by omega)
theorem fine_rad {b : Int} {ss : List Stg} {rate : Option Int} (R : Rad b ss rate) (hb : b ≤ 2 ^ 500) : Fine 40000 3 (radD ss rate) := by
  have hl := R.le
  have h1 : Fine 15208 2 (.list (ss.map Stg.d)) := by
    refine (Fine.list (w := 1900) (k := 1) (l := ss.map Stg.d) fun x hx => ?_).mono (by rw [List.length_map]; omega) (Nat.le_refl _)
    obtain ⟨s, hs, rfl⟩ := List.mem_map.mp hx
    exact fine_stg (R.ok s hs) hb
  have h2 : Fine 15208 2 (rateD rate) := by
    cases rate with
    | none => exact Fine.none.mono (by decide) (by decide)
    | some r =>
      obtain ⟨q1, q2⟩ := R.rate r rfl
      exact (Fine.int (by omega)).mono (by decide) (by decide)
  refine (Fine.tuple (w := 15208) (k := 2) (l := [.list (ss.map Stg.d), rateD rate]) fun x hx => ?_).mono (Nat.le_of_ble_eq_true rfl) (Nat.le_refl _)
  rcases List.mem_cons.mp hx with rfl | hx
  · exact h1
  · rw [List.mem_singleton.mp hx]; exact h2
def spLaw (K : PySem.W.Frag) : Sp := fun vs H Q _ => ∃ (a : Addr) (ns : List Int), vs = [.ref a] ∧ ns.length ≤ 100000 ∧ SqL K H a (ns.map V.int) ∧ ∀ H', Q (.bl true) H'
theorem jar_ex {n : Nat} {H H' : Hp} {j : Addr} (e : Ex H H') (h : JarAt n H j) : JarAt n H' j := by
  obtain ⟨a, b, c, h1, h2⟩ := h
  exact ⟨a, b, c, e _ _ h1, h2⟩
theorem dial_d (s : Stg) : isDialD s.d = s.isDial := by cases s <;> rfl
theorem flt_right {b : Int} : ∀ (ss : List Stg) (i : Nat) (has : Bool), (∀ s ∈ ss, s.ok b) → dials ss + (if has then 1 else 0) ≤ 1 → fltS (ss.map Stg.d) i has = none
  | [], _, _, _, _ => rfl
  | s :: ss, i, has, ok, one => by
    have rest := fun x hx => ok x (List.mem_cons_of_mem _ hx)
    have h1 : isStage s.d = true := stg_stage (ok s List.mem_cons_self)
    show (if isStage s.d = true then (if isDialD s.d = true then (if has = true then some i else fltS (ss.map Stg.d) (i + 1) true) else fltS (ss.map Stg.d) (i + 1) has) else some i) = none
    have hd : dials (s :: ss) = (if s.isDial then 1 else 0) + dials ss := by
      unfold dials
      rw [List.filter_cons]
      cases s.isDial <;> simp [Nat.add_comm]
    rw [hd] at one
    rw [h1, if_pos rfl, dial_d]
    cases q : s.isDial with
    | true =>
      rw [q] at one
      cases has with
      | true => simp at one
      | false =>
        exact flt_right ss (i + 1) true rest (by simp at one ⊢; omega)
    | false =>
      rw [q] at one
      exact flt_right ss (i + 1) has rest (by simpa using one)
theorem fault_right {b : Int} {ss : List Stg} {rate : Option Int} (R : Rad b ss rate) : fault (radD ss rate) = none := by
  have hf : isFrame (radD ss rate) = true := by
    have h1 : 1 ≤ ss.length := List.length_pos_iff.mpr R.ne
    simp [radD, isFrame, h1, R.le]
  obtain ⟨sd, r, e, hfl⟩ := frame_yes hf
  obtain ⟨rfl, rfl⟩ : ss.map Stg.d = sd ∧ rateD rate = r := by simpa [radD] using e
  rw [hfl, flt_right ss 0 false R.ok (by simpa using R.one)]
  have hr : isRate (rateD rate) = true := by
    cases rate with
    | none => rfl
    | some r => simp [rateD, isRate, R.rate r rfl]
  rw [hr]
  rfl
theorem ex_fr {j : Addr} {G : Hp} {o : HO} (h : G j = none) : Ex G (hid [j] (upd G j o)) := fun b u e => by
  have hb : b ≠ j := fun z => by rw [z, h] at e; cases e
  rw [hid_ne (nin1 hb), upd_ne hb]
  exact e
section
variable {P : Program} {w : World} {K : PySem.W.Frag} {mg : Str → Option Value} {base : Heap}
abbrev s_law : Stmt := top 38
theorem sc_law : FnScope ["script", "odd", "at", "jar", "radio", "bads", "good", "word"] ["script"] (defScope s_law) := ⟨rfl, rfl, rfl, by decide +kernel, rfl, by decide +kernel, by decide +kernel⟩
theorem ok_law {f : Addr} {fd : FuncData} (F : Fun K "law" "law" s_law f fd) (m_range : mg "range" = none) (m_max : mg "max" = none) (m_min : mg "min" = none) (m_len : mg "len" = none)
    (h__law_jar : Has P w K mg base 1 "_law_jar" (spJar K)) (h__law_pick : Has P w K mg base 1 "_law_pick" spPick) (h__law_radio : Has P w K mg base 2 "_law_radio" spRadio) (h0_odd : Has P w K mg base 2 "_law_odd_radios" spOddR)
    (h__law_alone_right : HasG P w K mg base 10 "_law_alone_right" (spAlone K)) :
    FnG P w K mg base CX0 11 f fd ["script"] (spLaw K) := by
  have h__law_odd_radios := has_fr h0_odd
  refine okG F sc_law (fun vs H Q E h => ?_) (fun cdv A outer s H vs Q E hgd hr h => ?_)
  · obtain ⟨a, ns, rfl, _⟩ := h
    rfl
  · obtain ⟨a, ns, rfl, hlen, hS, k⟩ := h
    have hC := cl0
    refine ⟨_, PSs.nox ((pss_cons (ps_set (i := 1) sc_law.nd rfl (Or.inl rfl) (lst_lit (dat_cons hC dat_non (dat_cons hC dat_bl (dat_cons hC dat_bl (dat_cons hC dat_str (dat_cons hC (dat_lst (lst_lit (dat_cons hC dat_int dat_nil) (by first | exact Nat.le_of_ble_eq_true rfl | (refine len_line ?_; simp only [List.length_append, List.length_cons, List.length_nil]; skip; omega)))) (dat_cons hC (dat_tup (dat_cons hC dat_int dat_nil) (by first | exact Nat.le_of_ble_eq_true rfl | (refine len_line ?_; simp only [List.length_append, List.length_cons, List.length_nil]; skip; omega))) (dat_cons hC dat_dic (dat_cons hC dat_str dat_nil)))))))) (by first | exact Nat.le_of_ble_eq_true rfl | (refine len_line ?_; simp only [List.length_append, List.length_cons, List.length_nil]; skip; omega))))
  (pss_cons (ps_for PassesOwn.never rfl (pi_range1 (by rfl) m_range (pa_cons (pe_callB (call_maxQ rfl) rfl m_max boot_max (pa_cons pe_int (pa_cons (pe_callB (call_minQ rfl) rfl m_min boot_min (pa_cons pe_int (pa_cons (pe_callB call_lenQ rfl m_len PySem.boot_len (pa_cons (pv 0) pa_nil)) pa_nil))) pa_nil))) pa_nil)) (pg_name (i := 2) sc_law.nd rfl (Or.inl rfl))
  (pss_cons (ps_set (i := 3) sc_law.nd rfl (Or.inl rfl) (pe_hs h__law_jar hr rfl (pa_cons (pv 0) (pa_cons (pv 2) pa_nil))))
  (pss_cons (ps_set (i := 4) sc_law.nd rfl (Or.inl rfl) (pe_hs h__law_radio hr rfl (pa_cons (pv 3) (pa_cons pe_int (pa_cons (pe_ix ix_list (pe_lst (pa_cons pe_int (pa_cons (pe_op op_powW pe_int pe_int) pa_nil))) (pe_hs h__law_pick hr rfl (pa_cons (pv 3) (pa_cons pe_int pa_nil))) (fun _ _ => rfl)) pa_nil)))))
  (pss_cons (ps_set (i := 5) sc_law.nd rfl (Or.inl rfl) (pe_lst (pa_cons (pe_hs h__law_odd_radios hr rfl (pa_cons (pv 4) pa_nil)) (pa_cons (pv 1) (pa_cons (pe_op op_cat (pv 1) (lst_lit (dat_cons hC dat_neg (dat_cons hC (dat_sub0 (wide_pow (b := 4) (by decide) (by decide) (by decide))) dat_nil)) (by first | exact Nat.le_of_ble_eq_true rfl | (refine len_line ?_; simp only [List.length_append, List.length_cons, List.length_nil]; skip; omega)))) pa_nil)))))
  (pss_cons (ps_set (i := 6) sc_law.nd rfl (Or.inl rfl) (pe_lst (pa_cons (pv 4) (pa_cons (pe_op op_sub (pe_hs h__law_pick hr rfl (pa_cons (pv 3) (pa_cons (pe_op op_mul pe_int (pe_op op_powW pe_int pe_int)) pa_nil))) (pe_op op_powW pe_int pe_int)) (pa_cons (pe_hs h__law_pick hr rfl (pa_cons (pv 3) (pa_cons (pe_op op_powW pe_int pe_int) pa_nil))) pa_nil)))))
  (pss_one (ps_for PassesOwn.never rfl (pi_tup (pe_tup (pa_cons pe_str (pa_cons pe_str pa_nil)))) (pg_name (i := 7) sc_law.nd rfl (Or.inl rfl))
  (pss_one (ps_if (pt_not (pt_val (pe_hsG h__law_alone_right hgd hr rfl (pa_cons (pv 7) (pa_cons (pv 6) (pa_cons (pv 5) pa_nil))))))
  (pss_one (ps_ret pe_bl))
  pss_nil)))))))))
  (pss_one (ps_ret pe_bl))))), ?_⟩
    walk_at "rd"
    refine go_datL trivial fun H1 l1 xs1 e1 hl1 hd1 => ?_
    walk_at "rd"
    refine go_lenS (Evl.ex_l e1 hS) ?_
    walk_at "rd"
    generalize hm : (if (if ((ns.map V.int).length : Int) < 5 then ((ns.map V.int).length : Int) else 5) > 1 then (if ((ns.map V.int).length : Int) < 5 then ((ns.map V.int).length : Int) else 5) else 1) = m
    have m18 : 1 ≤ m ∧ m ≤ 5 := by
      rw [← hm]
      constructor <;> (repeat' split) <;> omega
    refine ⟨by omega, by omega, ?_⟩
    refine run_forR (fun i σ G => ∃ v2 v3 v4 v5 v6 v7 : Option V, σ = [some (.ref a), some (.ref l1), v2, v3, v4, v5, v6, v7] ∧ Ex H1 G) ?_ ?_ ?_
    · exact ⟨_, _, _, _, _, _, rfl, Ex.refl _⟩
    · rintro i σ G hi ⟨v2, v3, v4, v5, v6, v7, rfl, eG⟩
      walk_at "rd"
      refine ⟨a, ns, i, by simp, Evl.ex_l (e1.trans eG) hS, by omega, fun j G1 hj eJ hJ => ?_⟩
      have hjH : H1 j = none := Evl.fresh_back eG hj
      have y1 : Jx [j] H1 G1 := Jx.of (eG.trans eJ)
      have p38 : CPowW 10 38 := wide_pow (b := 4) (by decide) (by decide) (by decide)
      have p39 : CPowW 10 39 := wide_pow (b := 4) (by decide) (by decide) (by decide)
      walk_at "rd"
      intro p hp
      have hpj : p ≠ j := fresh_ne hJ.obj.choose_spec hp
      walk_at "rd"
      refine pick_go (hJ.keep (upd_ne hpj.symm)) (by omega) (by omega) (by omega) fun u G2 u0 u1 J2 y2 => ?_
      have hp2 := y2.get upd_same (nin1 hpj)
      have x2 : Jx [j] H1 G2 := (y1.tr (Jx.new hp)).tr y2
      obtain ⟨far, ef, f9, f38⟩ := menu_int [9, 10 ^ 38] 9 (10 ^ 38) u0 (by simpa using u1) (by simp)
      refine go_ixL (.inl hp2) ef ?_
      walk_at "rd"
      refine ⟨j, 8, far, _, rfl, J2, by omega, by decide, by decide, by omega, by omega, fun pr ss rate G3 R _ hd hpr J3 y3 => ?_⟩
      have x3 := x2.tr y3
      have fr := fine_rad R (by omega)
      walk_at "rd"
      have J3' := J3
      obtain ⟨ja, jb, jc, hj3, hjc⟩ := J3'
      refine ⟨j, _, hj3, _, ss.map Stg.d, rateD rate, rfl, hd, ⟨by rw [List.length_map]; exact R.le, fun d hd => ?_, ?_⟩, fun po G4 xsR dsR e4 hpo hda hfn nD => ?_⟩
      · obtain ⟨st, hst, rfl⟩ := List.mem_map.mp hd
        exact fine_stg (R.ok st hst) (by omega)
      · cases rate with
        | none => exact Fine.none.mono (by decide) (by decide)
        | some r =>
          obtain ⟨q1, q2⟩ := R.rate r rfl
          exact Fine.int (by omega)
      have hpoj : po ≠ j := fun z => by rw [z, nD] at hpo; cases hpo
      have f4 := ex_fr (o := HO.lst [.int ja, .int jb, .int jc]) nD
      have y4 : Jx [j] G3 (upd G4 j (.lst [.int ja, .int jb, .int jc])) := e4.trans f4
      have J4 : JarAt (0 + 1 + 100) (upd G4 j (.lst [.int ja, .int jb, .int jc])) j := ⟨ja, jb, jc, upd_same, by first | exact hjc | simpa using hjc⟩
      have hpo4 : upd G4 j (.lst [.int ja, .int jb, .int jc]) po = some (.lst xsR) := by rw [upd_ne hpoj]; exact hpo
      have hda4 := hda.ex f4
      have x4 := x3.tr y4
      generalize upd G4 j (.lst [.int ja, .int jb, .int jc]) = G5 at *
      walk_at "rd"
      refine go_datL trivial fun H6 l2 xs2 e6 hl2 hd2 => ?_
      have hl1j : l1 ≠ j := fun z => by rw [z, hjH] at hl1; cases hl1
      refine go_cat (e6 _ _ (x4.get hl1 (nin1 hl1j))) hl2 (by rw [hd1.len, hd2.len]; exact Nat.le_of_ble_eq_true rfl) fun l3 n3 => ?_
      have a3 := Ex.new (o := HO.lst (xs1 ++ xs2)) n3
      walk_at "rd"
      intro pb npb
      have hpbj : pb ≠ j := fresh_ne (jar_ex (e6.trans a3) J4).obj.choose_spec npb
      have hl3j : l3 ≠ j := fresh_ne (jar_ex e6 J4).obj.choose_spec n3
      have ab := Ex.new (o := HO.lst [V.ref po, .ref l1, .ref l3]) npb
      have e7 := (e6.trans a3).trans ab
      have J7 := jar_ex e7 J4
      have x7 := x4.tr (Jx.of e7)
      have hl3 := ab _ _ (upd_same (H := H6) (a := l3) (o := HO.lst (xs1 ++ xs2)))
      have hpb := upd_same (H := upd H6 l3 (HO.lst (xs1 ++ xs2))) (a := pb) (o := HO.lst [V.ref po, .ref l1, .ref l3])
      generalize upd (upd H6 l3 (HO.lst (xs1 ++ xs2))) pb (HO.lst [V.ref po, .ref l1, .ref l3]) = G7 at *
      walk_at "rd"
      refine pick_go J7 (by omega) (by decide) (by decide) fun u8 G8 u80 u81 J8 y8 => ?_
      walk_at "rd"
      refine pick_go J8 (by omega) (by decide) (by decide) fun u9 G9 u90 u91 J9 y9 => ?_
      walk_at "rd"
      intro pg npg
      have x9 := (x7.tr y8).tr y9
      have zg : Jx [j] G9 (upd G9 pg (.lst [.ref pr, .int (u8 - 10 ^ (39 : Int).toNat), .int u9])) := Jx.new npg
      have hpg := upd_same (H := G9) (a := pg) (o := HO.lst [.ref pr, .int (u8 - 10 ^ (39 : Int).toNat), .int u9])
      generalize upd G9 pg (.lst [.ref pr, .int (u8 - 10 ^ (39 : Int).toNat), .int u9]) = G10 at *
      walk_at "rd"
      intro pt npt
      have xg : Jx [j] H1 G10 := x9.tr zg
      have w7 : Jx [j] G7 G10 := (y8.tr y9).tr zg
      have w5 : Jx [j] G5 G10 := (Jx.of e7).tr w7
      have e10 : Ex H1 G10 := (jx_hid xg hjH).trans hid_ex
      have t39 : (10 : Int) ^ (39 : Int).toNat = 1000000000000000000000000000000000000000 := by decide +kernel
      have bo : Bads K 78100 10 G10 po := ⟨xsR, dsR, w5.get hpo4 (nin1 hpoj), (Jx.dqa w5 hda4).ex hid_ex, hfn⟩
      have dq1 := (hd1.ex (jx_hid xg hjH)).ex hid_ex
      have b1 : Bads K 600 2 G10 l1 := ⟨xs1, _, xg.get hl1 (nin1 hl1j), dq1, fine_dec (by decide +kernel)⟩
      have dq2 : DqAll G10 xs2 [.int (-1), .int (0 - 10 ^ (39 : Int).toNat)] := by
        cases hd2 with
        | cons h t =>
          cases h
          cases t with
          | cons h t =>
            cases h
            cases t
            exact .cons (.int _) (.cons (.int _) .nil)
      have b3 : Bads K 600 2 G10 l3 := ⟨_, _, w7.get hl3 (nin1 hl3j), dq1.app dq2, fine_dec (by decide +kernel)⟩
      have hx := (Jx.dq (y4.tr w5) hd).ex hid_ex
      have hpb10 := w7.get hpb (nin1 hpbj)
      have f1 : Fine 600 0 (.int (u8 - 10 ^ (39 : Int).toNat)) := Fine.int (by rw [t39] at u81 ⊢; omega)
      have f2 : Fine 600 0 (.int u9) := Fine.int (by rw [t39] at u91; omega)
      have n2 : isNat (.int u9) = true := by simp [isNat, u90]
      have aT := Ex.new (o := HO.tup [V.str "tone_at", .str "stage_tones"]) npt
      refine ⟨pt, rfl, ⟨_, .inl (.inl upd_same)⟩, ?_⟩
      refine run_forT [.str "tone_at", .str "stage_tones"] (fun n σ G => ∃ v7 : Option V, σ = [some (.ref a), some (.ref l1), some (.int (0 + (i : Int))), some (.ref j), some (.ref pr), some (.ref pb), some (.ref pg), v7] ∧ Ex (upd G10 pt (HO.tup [V.str "tone_at", .str "stage_tones"])) G) ?_ ?_ ?_ ?_
      · exact ⟨_, rfl, Ex.refl _⟩
      · rintro n σ G' _ ⟨_, rfl, e⟩
        exact .inl (.inl (e _ _ upd_same))
      · rintro n v σ G' hv ⟨w7', rfl, e⟩
        have eT := aT.trans e
        obtain ⟨word, rfl⟩ : ∃ word : Str, v = .str word := by
          match n, hv with
          | 0, hv => cases hv; exact ⟨_, rfl⟩
          | 1, hv => cases hv; exact ⟨_, rfl⟩
        walk_at "rd"
        refine ⟨word, pg, pb, po, l1, l3, _, _, _, _, _, _, rfl, eT _ _ hpg, eT _ _ hpb10, hx.ex eT, .int _, .int _, fault_right R, rfl, n2, fr, f1, f2, bo.ex eT, b1.ex eT, b3.ex eT, fun H' e' => ?_⟩
        walk_at "rd"
        refine iteF ?_
        exact ⟨_, rfl, e.trans e'⟩
      · rintro σ G' ⟨_, rfl, e⟩
        exact ⟨_, _, _, _, _, _, rfl, (e10.trans aT).trans e⟩
    · rintro σ G ⟨_, _, _, _, _, _, rfl, e⟩
      walk_at "rd"
      exact k _
end
end Kx

set_option Elab.async false
set_option linter.all false
set_option maxRecDepth 100000
set_option maxHeartbeats 2000000
namespace Kx
open PySem PySem.Spec PyProof.Rows L2 HX
open Evl (Ex)

theorem all_mk {P : Program} {w : World} {K : PySem.W.Frag} {h : Heap} {mg : Str → Option Value} {fa f1 f2 f3 f4 f5 f6 f7 f8 f9 f10 f11 f12 f13 f14 f15 f16 f17 f18 f19 f20 f21 f22 f23 f24 f25 f26 f27 : Addr} {od1 an1 od2 an2 od3 an3 od4 an4 od5 an5 od6 an6 od7 an7 od8 an8 od9 an9 od10 an10 od11 an11 od12 an12 od13 an13 od14 an14 od15 an15 od16 an16 od17 an17 od18 an18 od19 an19 od20 an20 od21 an21 od22 an22 od23 an23 od24 an24 od25 an25 od26 an26 od27 an27 : Option Addr} {sl1 sl2 sl3 sl4 sl5 sl6 sl7 sl8 sl9 sl10 sl11 sl12 sl13 sl14 sl15 sl16 sl17 sl18 sl19 sl20 sl21 sl22 sl23 sl24 sl25 sl26 sl27 : Array (Option Value)} {oc1 kV1 dc1 pm1 cd1 ct1 oc2 kV2 dc2 pm2 cd2 ct2 oc3 kV3 dc3 pm3 cd3 ct3 oc4 kV4 dc4 pm4 cd4 ct4 oc5 kV5 dc5 pm5 cd5 ct5 oc6 kV6 dc6 pm6 cd6 ct6 oc7 kV7 dc7 pm7 cd7 ct7 oc8 kV8 dc8 pm8 cd8 ct8 oc9 kV9 dc9 pm9 cd9 ct9 oc10 kV10 dc10 pm10 cd10 ct10 oc11 kV11 dc11 pm11 cd11 ct11 oc12 kV12 dc12 pm12 cd12 ct12 oc13 kV13 dc13 pm13 cd13 ct13 oc14 kV14 dc14 pm14 cd14 ct14 oc15 kV15 dc15 pm15 cd15 ct15 oc16 kV16 dc16 pm16 cd16 ct16 oc17 kV17 dc17 pm17 cd17 ct17 oc18 kV18 dc18 pm18 cd18 ct18 oc19 kV19 dc19 pm19 cd19 ct19 oc20 kV20 dc20 pm20 cd20 ct20 oc21 kV21 dc21 pm21 cd21 ct21 oc22 kV22 dc22 pm22 cd22 ct22 oc23 kV23 dc23 pm23 cd23 ct23 oc24 kV24 dc24 pm24 cd24 ct24 oc25 kV25 dc25 pm25 cd25 ct25 oc26 kV26 dc26 pm26 cd26 ct26 oc27 kV27 dc27 pm27 cd27 ct27 : Value} {t1 t2 : Tok}
    {C0 C1 C2 C3 C4 : Addr}
    {i0 u0 v0 N0 : Addr} {nm0 qn0 q0 msg0 file0 : Str} {bs0 bm0 sub0 : List Value} {sn0 : List Str} {ab0 : Bool} {col0 : Option Bool} {dd0 eod0 ean0 cld0 dld0 : Option Addr} {m0_0 m0_1 m0_2 m0_3 m0_5 : Option Value} {eoc0 edc0 epm0 ect0 cl0 dl0 : Value} {esl0 csl0 dsl0 : Array (Option Value)} {vs0 : Array Value} {tf0 : Tok} {p1_0 p2_0 a1_0 a2_0 a3_0 a4_0 a5_0 a6_0 q1_0 q2_0 q3_0 q4_0 : Pos} (X : K.In h) (G : h.Ns mainGlobals mg) (hfa : mg "law" = some (.ref fa))
    (a1 : PySem.W.nsIn K mainGlobals "_law_jar" = some (some (.ref f1)))
    (l1 : K.lookup f1 = some ⟨oc1, od1, .func (PySem.W.fnOf "_law_jar" "_law_jar" (defArgs s__law_jar) (defBody s__law_jar) (defScope s__law_jar) .none kV1 dc1 pm1 an1 cd1 ct1), sl1⟩)
    (c1 : PySem.W.codeIn K cd1 "_law_jar" = true)
    (k1 : PySem.W.keepIn K (.ref f1) = true)
    (a2 : PySem.W.nsIn K mainGlobals "_law_pick" = some (some (.ref f2)))
    (l2 : K.lookup f2 = some ⟨oc2, od2, .func (PySem.W.fnOf "_law_pick" "_law_pick" (defArgs s__law_pick) (defBody s__law_pick) (defScope s__law_pick) .none kV2 dc2 pm2 an2 cd2 ct2), sl2⟩)
    (c2 : PySem.W.codeIn K cd2 "_law_pick" = true)
    (k2 : PySem.W.keepIn K (.ref f2) = true)
    (a3 : PySem.W.nsIn K mainGlobals "_law_radio" = some (some (.ref f3)))
    (l3 : K.lookup f3 = some ⟨oc3, od3, .func (PySem.W.fnOf "_law_radio" "_law_radio" (defArgs s__law_radio) (defBody s__law_radio) (defScope s__law_radio) .none kV3 dc3 pm3 an3 cd3 ct3), sl3⟩)
    (c3 : PySem.W.codeIn K cd3 "_law_radio" = true)
    (k3 : PySem.W.keepIn K (.ref f3) = true)
    (a4 : PySem.W.nsIn K mainGlobals "is_integer" = some (some (.ref f4)))
    (l4 : K.lookup f4 = some ⟨oc4, od4, .func (PySem.W.fnOf "is_integer" "is_integer" (defArgs s_is_integer) (defBody s_is_integer) (defScope s_is_integer) .none kV4 dc4 pm4 an4 cd4 ct4), sl4⟩)
    (c4 : PySem.W.codeIn K cd4 "is_integer" = true)
    (k4 : PySem.W.keepIn K (.ref f4) = true)
    (a5 : PySem.W.nsIn K mainGlobals "is_natural" = some (some (.ref f5)))
    (l5 : K.lookup f5 = some ⟨oc5, od5, .func (PySem.W.fnOf "is_natural" "is_natural" (defArgs s_is_natural) (defBody s_is_natural) (defScope s_is_natural) .none kV5 dc5 pm5 an5 cd5 ct5), sl5⟩)
    (c5 : PySem.W.codeIn K cd5 "is_natural" = true)
    (k5 : PySem.W.keepIn K (.ref f5) = true)
    (a6 : PySem.W.nsIn K mainGlobals "is_band" = some (some (.ref f6)))
    (l6 : K.lookup f6 = some ⟨oc6, od6, .func (PySem.W.fnOf "is_band" "is_band" (defArgs s_is_band) (defBody s_is_band) (defScope s_is_band) .none kV6 dc6 pm6 an6 cd6 ct6), sl6⟩)
    (c6 : PySem.W.codeIn K cd6 "is_band" = true)
    (k6 : PySem.W.keepIn K (.ref f6) = true)
    (a7 : PySem.W.nsIn K mainGlobals "is_stage" = some (some (.ref f7)))
    (l7 : K.lookup f7 = some ⟨oc7, od7, .func (PySem.W.fnOf "is_stage" "is_stage" (defArgs s_is_stage) (defBody s_is_stage) (defScope s_is_stage) .none kV7 dc7 pm7 an7 cd7 ct7), sl7⟩)
    (c7 : PySem.W.codeIn K cd7 "is_stage" = true)
    (k7 : PySem.W.keepIn K (.ref f7) = true)
    (a8 : PySem.W.nsIn K mainGlobals "is_rate" = some (some (.ref f8)))
    (l8 : K.lookup f8 = some ⟨oc8, od8, .func (PySem.W.fnOf "is_rate" "is_rate" (defArgs s_is_rate) (defBody s_is_rate) (defScope s_is_rate) .none kV8 dc8 pm8 an8 cd8 ct8), sl8⟩)
    (c8 : PySem.W.codeIn K cd8 "is_rate" = true)
    (k8 : PySem.W.keepIn K (.ref f8) = true)
    (a9 : PySem.W.nsIn K mainGlobals "_is_frame" = some (some (.ref f9)))
    (l9 : K.lookup f9 = some ⟨oc9, od9, .func (PySem.W.fnOf "_is_frame" "_is_frame" (defArgs s__is_frame) (defBody s__is_frame) (defScope s__is_frame) .none kV9 dc9 pm9 an9 cd9 ct9), sl9⟩)
    (c9 : PySem.W.codeIn K cd9 "_is_frame" = true)
    (k9 : PySem.W.keepIn K (.ref f9) = true)
    (a10 : PySem.W.nsIn K mainGlobals "mixing_tone" = some (some (.ref f10)))
    (l10 : K.lookup f10 = some ⟨oc10, od10, .func (PySem.W.fnOf "mixing_tone" "mixing_tone" (defArgs s_mixing_tone) (defBody s_mixing_tone) (defScope s_mixing_tone) .none kV10 dc10 pm10 an10 cd10 ct10), sl10⟩)
    (c10 : PySem.W.codeIn K cd10 "mixing_tone" = true)
    (k10 : PySem.W.keepIn K (.ref f10) = true)
    (a11 : PySem.W.nsIn K mainGlobals "behind_stage" = some (some (.ref f11)))
    (l11 : K.lookup f11 = some ⟨oc11, od11, .func (PySem.W.fnOf "behind_stage" "behind_stage" (defArgs s_behind_stage) (defBody s_behind_stage) (defScope s_behind_stage) .none kV11 dc11 pm11 an11 cd11 ct11), sl11⟩)
    (c11 : PySem.W.codeIn K cd11 "behind_stage" = true)
    (k11 : PySem.W.keepIn K (.ref f11) = true)
    (a12 : PySem.W.nsIn K mainGlobals "behind_sampler" = some (some (.ref f12)))
    (l12 : K.lookup f12 = some ⟨oc12, od12, .func (PySem.W.fnOf "behind_sampler" "behind_sampler" (defArgs s_behind_sampler) (defBody s_behind_sampler) (defScope s_behind_sampler) .none kV12 dc12 pm12 an12 cd12 ct12), sl12⟩)
    (c12 : PySem.W.codeIn K cd12 "behind_sampler" = true)
    (k12 : PySem.W.keepIn K (.ref f12) = true)
    (a13 : PySem.W.nsIn K mainGlobals "check_receiver" = some (some (.ref f13)))
    (l13 : K.lookup f13 = some ⟨oc13, od13, .func (PySem.W.fnOf "check_receiver" "check_receiver" (defArgs s_check_receiver) (defBody s_check_receiver) (defScope s_check_receiver) .none kV13 dc13 pm13 an13 cd13 ct13), sl13⟩)
    (c13 : PySem.W.codeIn K cd13 "check_receiver" = true)
    (k13 : PySem.W.keepIn K (.ref f13) = true)
    (a14 : PySem.W.nsIn K mainGlobals "check_dial" = some (some (.ref f14)))
    (l14 : K.lookup f14 = some ⟨oc14, od14, .func (PySem.W.fnOf "check_dial" "check_dial" (defArgs s_check_dial) (defBody s_check_dial) (defScope s_check_dial) .none kV14 dc14 pm14 an14 cd14 ct14), sl14⟩)
    (c14 : PySem.W.codeIn K cd14 "check_dial" = true)
    (k14 : PySem.W.keepIn K (.ref f14) = true)
    (a15 : PySem.W.nsIn K mainGlobals "check_signal" = some (some (.ref f15)))
    (l15 : K.lookup f15 = some ⟨oc15, od15, .func (PySem.W.fnOf "check_signal" "check_signal" (defArgs s_check_signal) (defBody s_check_signal) (defScope s_check_signal) .none kV15 dc15 pm15 an15 cd15 ct15), sl15⟩)
    (c15 : PySem.W.codeIn K cd15 "check_signal" = true)
    (k15 : PySem.W.keepIn K (.ref f15) = true)
    (a16 : PySem.W.nsIn K mainGlobals "stage_tones" = some (some (.ref f16)))
    (l16 : K.lookup f16 = some ⟨oc16, od16, .func (PySem.W.fnOf "stage_tones" "stage_tones" (defArgs s_stage_tones) (defBody s_stage_tones) (defScope s_stage_tones) .none kV16 dc16 pm16 an16 cd16 ct16), sl16⟩)
    (c16 : PySem.W.codeIn K cd16 "stage_tones" = true)
    (k16 : PySem.W.keepIn K (.ref f16) = true)
    (a17 : PySem.W.nsIn K mainGlobals "tone_at" = some (some (.ref f17)))
    (l17 : K.lookup f17 = some ⟨oc17, od17, .func (PySem.W.fnOf "tone_at" "tone_at" (defArgs s_tone_at) (defBody s_tone_at) (defScope s_tone_at) .none kV17 dc17 pm17 an17 cd17 ct17), sl17⟩)
    (c17 : PySem.W.codeIn K cd17 "tone_at" = true)
    (k17 : PySem.W.keepIn K (.ref f17) = true)
    (a18 : PySem.W.nsIn K mainGlobals "_law_call" = some (some (.ref f18)))
    (l18 : K.lookup f18 = some ⟨oc18, od18, .func (PySem.W.fnOf "_law_call" "_law_call" (defArgs s__law_call) (defBody s__law_call) (defScope s__law_call) .none kV18 dc18 pm18 an18 cd18 ct18), sl18⟩)
    (c18 : PySem.W.codeIn K cd18 "_law_call" = true)
    (k18 : PySem.W.keepIn K (.ref f18) = true)
    (a19 : PySem.W.nsIn K mainGlobals "_law_is_int" = some (some (.ref f19)))
    (l19 : K.lookup f19 = some ⟨oc19, od19, .func (PySem.W.fnOf "_law_is_int" "_law_is_int" (defArgs s__law_is_int) (defBody s__law_is_int) (defScope s__law_is_int) .none kV19 dc19 pm19 an19 cd19 ct19), sl19⟩)
    (c19 : PySem.W.codeIn K cd19 "_law_is_int" = true)
    (k19 : PySem.W.keepIn K (.ref f19) = true)
    (a20 : PySem.W.nsIn K mainGlobals "_law_is_stage" = some (some (.ref f20)))
    (l20 : K.lookup f20 = some ⟨oc20, od20, .func (PySem.W.fnOf "_law_is_stage" "_law_is_stage" (defArgs s__law_is_stage) (defBody s__law_is_stage) (defScope s__law_is_stage) .none kV20 dc20 pm20 an20 cd20 ct20), sl20⟩)
    (c20 : PySem.W.codeIn K cd20 "_law_is_stage" = true)
    (k20 : PySem.W.keepIn K (.ref f20) = true)
    (a21 : PySem.W.nsIn K mainGlobals "_law_radio_fault" = some (some (.ref f21)))
    (l21 : K.lookup f21 = some ⟨oc21, od21, .func (PySem.W.fnOf "_law_radio_fault" "_law_radio_fault" (defArgs s__law_radio_fault) (defBody s__law_radio_fault) (defScope s__law_radio_fault) .none kV21 dc21 pm21 an21 cd21 ct21), sl21⟩)
    (c21 : PySem.W.codeIn K cd21 "_law_radio_fault" = true)
    (k21 : PySem.W.keepIn K (.ref f21) = true)
    (a22 : PySem.W.nsIn K mainGlobals "_law_odd_stages" = some (some (.ref f22)))
    (l22 : K.lookup f22 = some ⟨oc22, od22, .func (PySem.W.fnOf "_law_odd_stages" "_law_odd_stages" (defArgs s__law_odd_stages) (defBody s__law_odd_stages) (defScope s__law_odd_stages) .none kV22 dc22 pm22 an22 cd22 ct22), sl22⟩)
    (c22 : PySem.W.codeIn K cd22 "_law_odd_stages" = true)
    (k22 : PySem.W.keepIn K (.ref f22) = true)
    (a23 : PySem.W.nsIn K mainGlobals "_law_odd_radios" = some (some (.ref f23)))
    (l23 : K.lookup f23 = some ⟨oc23, od23, .func (PySem.W.fnOf "_law_odd_radios" "_law_odd_radios" (defArgs s__law_odd_radios) (defBody s__law_odd_radios) (defScope s__law_odd_radios) .none kV23 dc23 pm23 an23 cd23 ct23), sl23⟩)
    (c23 : PySem.W.codeIn K cd23 "_law_odd_radios" = true)
    (k23 : PySem.W.keepIn K (.ref f23) = true)
    (a24 : PySem.W.nsIn K mainGlobals "_law_due" = some (some (.ref f24)))
    (l24 : K.lookup f24 = some ⟨oc24, od24, .func (PySem.W.fnOf "_law_due" "_law_due" (defArgs s__law_due) (defBody s__law_due) (defScope s__law_due) .none kV24 dc24 pm24 an24 cd24 ct24), sl24⟩)
    (c24 : PySem.W.codeIn K cd24 "_law_due" = true)
    (k24 : PySem.W.keepIn K (.ref f24) = true)
    (a25 : PySem.W.nsIn K mainGlobals "_law_told" = some (some (.ref f25)))
    (l25 : K.lookup f25 = some ⟨oc25, od25, .func (PySem.W.fnOf "_law_told" "_law_told" (defArgs s__law_told) (defBody s__law_told) (defScope s__law_told) .none kV25 dc25 pm25 an25 cd25 ct25), sl25⟩)
    (c25 : PySem.W.codeIn K cd25 "_law_told" = true)
    (k25 : PySem.W.keepIn K (.ref f25) = true)
    (a26 : PySem.W.nsIn K mainGlobals "_law_alone_right" = some (some (.ref f26)))
    (l26 : K.lookup f26 = some ⟨oc26, od26, .func (PySem.W.fnOf "_law_alone_right" "_law_alone_right" (defArgs s__law_alone_right) (defBody s__law_alone_right) (defScope s__law_alone_right) .none kV26 dc26 pm26 an26 cd26 ct26), sl26⟩)
    (c26 : PySem.W.codeIn K cd26 "_law_alone_right" = true)
    (k26 : PySem.W.keepIn K (.ref f26) = true)
    (a27 : PySem.W.nsIn K mainGlobals "law" = some (some (.ref f27)))
    (l27 : K.lookup f27 = some ⟨oc27, od27, .func (PySem.W.fnOf "law" "law" (defArgs s_law) (defBody s_law) (defScope s_law) .none kV27 dc27 pm27 an27 cd27 ct27), sl27⟩)
    (c27 : PySem.W.codeIn K cd27 "law" = true)
    (k27 : PySem.W.keepIn K (.ref f27) = true)
    (z1 : PySem.W.nsIn K mainGlobals "len" = some none)
    (z2 : PySem.W.nsIn K mainGlobals "max" = some none)
    (z3 : PySem.W.nsIn K mainGlobals "abs" = some none)
    (z4 : PySem.W.nsIn K mainGlobals "int" = some none)
    (z5 : PySem.W.nsIn K mainGlobals "range" = some none)
    (z6 : PySem.W.nsIn K mainGlobals "isinstance" = some none)
    (z7 : PySem.W.nsIn K mainGlobals "bool" = some none)
    (z8 : PySem.W.nsIn K mainGlobals "tuple" = some none)
    (z9 : PySem.W.nsIn K mainGlobals "str" = some none)
    (z10 : PySem.W.nsIn K mainGlobals "list" = some none)
    (z11 : PySem.W.nsIn K mainGlobals "enumerate" = some none)
    (z12 : PySem.W.nsIn K mainGlobals "min" = some none)
    (z13 : PySem.W.nsIn K mainGlobals "repr" = some none)
    (z14 : PySem.W.nsIn K mainGlobals "super" = some none)
    (y1 : PySem.W.nsIn K mainGlobals "LEAST_RATE" = some (some (.int 2 t1)))
    (y2 : PySem.W.nsIn K mainGlobals "MOST_STAGES" = some (some (.int 8 t2)))
    (g0 : PySem.W.nsIn K mainGlobals "InvalidReceiver" = some (some (.ref C0)))
    (w0 : PySem.W.keepIn K (.ref C0) = true)
    (eb0 : PySem.W.subIn K (.ref C0) (.type "BaseException") = some true)
    (ty0 : PySem.W.typeIn K (.ref C0) = some (.type "type"))
    (ga0 : PySem.W.findIn K (.ref C0) "__getattribute__" = some (some (.builtin "BaseException.__getattribute__")))
    (gg0 : PySem.W.findIn K (.ref C0) "__getattr__" = some none)
    (hd0 : PySem.W.hasDictIn K C0 = true)
    (xL0 : K.lookup C0 = some (excClassObj nm0 qn0 C0 N0 bs0 bm0 true sn0 sub0 ab0 col0 dd0 m0_0 m0_1 m0_2 m0_3 m0_5 "ValueError.__new__"))
    (rv0 : PySem.HandSPX.refsVE bm0 = true)
    (sa0 : PySem.W.findIn K (.ref C0) "__setattr__" = some (some (.builtin "object.__setattr__")))
    (no0 : PySem.W.findIn K (.ref C0) "index" = some none)
    (iC0 : PySem.W.findIn K (.ref C0) "__init__" = some (some (.ref i0)))
    (tC0 : PySem.W.typeIn K (.ref i0) = some (.type "function"))
    (ve0 : PySem.W.subIn K (.ref C0) (.type "ValueError") = some true)
    (me0 : PySem.W.mroIn K C0 (.ref C0) = some true)
    (te0 : PySem.W.exmOne K (.ref C0) (.ref C0) = some true)
    (su0 : PySem.W.ks_superIn K C0 C0 "__init__" = some (some (.builtin "ValueError.__init__")))
    (li0 : K.lookup i0 = some ⟨eoc0, eod0, .func (PySem.W.fnX "__init__" q0 (SupX.iA "index" p1_0 p2_0) (SupX.iB "index" msg0 a1_0 a2_0 a3_0 a4_0 a5_0 a6_0 q1_0 q2_0 q3_0 q4_0) (SupX.iS "index") [("__class__", u0)] .none .none edc0 epm0 ean0 (.ref v0) ect0), esl0⟩)
    (ci0 : PySem.W.codeIn K (.ref v0) q0 = true)
    (lu0 : K.lookup u0 = some ⟨cl0, cld0, .cell (some (.ref C0)), csl0⟩)
    (lv0 : K.lookup v0 = some ⟨dl0, dld0, .fields vs0, dsl0⟩)
    (vv0 : vs0[2]? = some (.str file0 tf0))
    (fi0 : ((P.main.file : Str) == file0) = true)
    (hl0 : (a3_0.endLine == a5_0.line) = true)
    (g1 : PySem.W.nsIn K mainGlobals "InvalidDial" = some (some (.ref C1)))
    (w1 : PySem.W.keepIn K (.ref C1) = true)
    (eb1 : PySem.W.subIn K (.ref C1) (.type "BaseException") = some true)
    (ty1 : PySem.W.typeIn K (.ref C1) = some (.type "type"))
    (x1 : PySem.W.excIn K C1 [.type "ValueError", .type "Exception", .type "BaseException", .type "object"] "ValueError.__new__" = true)
    (g2 : PySem.W.nsIn K mainGlobals "InvalidSignal" = some (some (.ref C2)))
    (w2 : PySem.W.keepIn K (.ref C2) = true)
    (eb2 : PySem.W.subIn K (.ref C2) (.type "BaseException") = some true)
    (ty2 : PySem.W.typeIn K (.ref C2) = some (.type "type"))
    (x2 : PySem.W.excIn K C2 [.type "ValueError", .type "Exception", .type "BaseException", .type "object"] "ValueError.__new__" = true)
    (g3 : PySem.W.nsIn K mainGlobals "InvalidNumber" = some (some (.ref C3)))
    (w3 : PySem.W.keepIn K (.ref C3) = true)
    (eb3 : PySem.W.subIn K (.ref C3) (.type "BaseException") = some true)
    (ty3 : PySem.W.typeIn K (.ref C3) = some (.type "type"))
    (x3 : PySem.W.excIn K C3 [.type "ValueError", .type "Exception", .type "BaseException", .type "object"] "ValueError.__new__" = true)
    (g4 : PySem.W.nsIn K mainGlobals "ToneError" = some (some (.ref C4)))
    (w4 : PySem.W.keepIn K (.ref C4) = true)
    (eb4 : PySem.W.subIn K (.ref C4) (.type "BaseException") = some true)
    (ty4 : PySem.W.typeIn K (.ref C4) = some (.type "type"))
    (x4 : PySem.W.excIn K C4 [.type "ValueError", .type "Exception", .type "BaseException", .type "object"] "ValueError.__new__" = true)
    (op : PySem.W.nsIn K cStatics "thirdparty.any" = some none)
    (tp : (P.main.scope.names.lookup ("super" : Str)).isSome = false)
    (xDR : PySem.W.exmOne K (.ref C1) (.ref C0) = some false)
    (xDD : PySem.W.exmOne K (.ref C1) (.ref C1) = some true)
    (xSR : PySem.W.exmOne K (.ref C2) (.ref C0) = some false)
    (xSD : PySem.W.exmOne K (.ref C2) (.ref C1) = some false)
    (xSS : PySem.W.exmOne K (.ref C2) (.ref C2) = some true)
    (eR : ExcC K C0)
    (eD : ExcC K C1)
    (eS : ExcC K C2)
    (kR : PySem.W.kitOne K (.ref C0) (.ref C4) = some true)
    (kD : PySem.W.kitOne K (.ref C1) (.ref C4) = some true)
    (kS : PySem.W.kitOne K (.ref C2) (.ref C4) = some true) :
    ∃ fd : FuncData, (∀ (s : Shared) (v : Value), BindsTo s fd ⟨[v], []⟩ [("script", v)]) ∧ ∀ base : Heap, K.In base → base.Ns mainGlobals mg → FnG P w K mg base CX0 11 fa fd ["script"] (spLaw K) := by
  have e := hfa.symm.trans (PySem.W.mg_of X G a27)
  cases e
  have m_len := PySem.W.mg_none_of X G z1
  have m_max := PySem.W.mg_none_of X G z2
  have m_abs := PySem.W.mg_none_of X G z3
  have m_int := PySem.W.mg_none_of X G z4
  have m_range := PySem.W.mg_none_of X G z5
  have m_isinstance := PySem.W.mg_none_of X G z6
  have m_bool := PySem.W.mg_none_of X G z7
  have m_tuple := PySem.W.mg_none_of X G z8
  have m_str := PySem.W.mg_none_of X G z9
  have m_list := PySem.W.mg_none_of X G z10
  have m_enumerate := PySem.W.mg_none_of X G z11
  have m_min := PySem.W.mg_none_of X G z12
  have m_repr := PySem.W.mg_none_of X G z13
  have m_super := PySem.W.mg_none_of X G z14
  have g_LEAST_RATE := PySem.W.mg_of X G y1
  have g_MOST_STAGES := PySem.W.mg_of X G y2
  have g_InvalidReceiver := PySem.W.mg_of X G g0
  have T_InvalidReceiver : SupX.ErrTxt P K mg "InvalidReceiver" "index" C0 i0 := { okf := .inl rfl, gC := PySem.W.mg_of X G g0, cls := ⟨_, _, _, _, _, _, _, _, _, _, _, _, _, _, _, xL0, rv0⟩, sa := sa0, ga := ga0, gg := gg0, noN := no0, iC := iC0, tC := tC0, kC := w0, exC := eb0, veC := ve0, meC := me0, tyC := ty0, hdC := hd0, te := te0, sup := su0, op := op, gs := m_super, top := tp, fn := ⟨_, _, _, _, _, _, .none, _, _, _, _, _, _, _, _, _, _, _, _, _, _, _, _, _, _, _, _, _, _, _, _, _, _, li0, ci0, lu0, lv0, vv0, fi0, hl0⟩ }
  have g_InvalidDial := PySem.W.mg_of X G g1
  have T_InvalidDial : Err K mg "InvalidDial" C1 := ⟨PySem.W.mg_of X G g1, x1, w1, eb1, ty1⟩
  have g_InvalidSignal := PySem.W.mg_of X G g2
  have T_InvalidSignal : Err K mg "InvalidSignal" C2 := ⟨PySem.W.mg_of X G g2, x2, w2, eb2, ty2⟩
  have g_InvalidNumber := PySem.W.mg_of X G g3
  have T_InvalidNumber : Err K mg "InvalidNumber" C3 := ⟨PySem.W.mg_of X G g3, x3, w3, eb3, ty3⟩
  have g_ToneError := PySem.W.mg_of X G g4
  have T_ToneError : Err K mg "ToneError" C4 := ⟨PySem.W.mg_of X G g4, x4, w4, eb4, ty4⟩
  refine ⟨PySem.W.fnOf "law" "law" (defArgs s_law) (defBody s_law) (defScope s_law) .none kV27 dc27 pm27 an27 cd27 ct27, fun s v => .of_eq rfl, fun base _ _ => ?_⟩
  have F1 := fun_mk (st := s__law_jar) l1 c1 k1
  have h__law_jar : Has P w K mg base 1 "_law_jar" (spJar K) := ⟨f1, _, ["script", "at"], ok_jar (P := P) (w := w) (mg := mg) (base := base) F1 (m_len := m_len) (m_max := m_max) (m_abs := m_abs) (m_int := m_int), PySem.W.mg_of X G a1, k1, F1.binds (ps := ["script", "at"]) fun _ _ _ _ _ _ us hl => match us, hl with | [_, _], _ => rfl⟩
  have F2 := fun_mk (st := s__law_pick) l2 c2 k2
  have h__law_pick : Has P w K mg base 1 "_law_pick" spPick := ⟨f2, _, ["jar", "bound"], ok_pick (P := P) (w := w) (mg := mg) (base := base) F2 (m_int := m_int), PySem.W.mg_of X G a2, k2, F2.binds (ps := ["jar", "bound"]) fun _ _ _ _ _ _ us hl => match us, hl with | [_, _], _ => rfl⟩
  have F3 := fun_mk (st := s__law_radio) l3 c3 k3
  have h__law_radio : Has P w K mg base 2 "_law_radio" spRadio := ⟨f3, _, ["jar", "most", "far"], ok_radio (P := P) (w := w) (mg := mg) (base := base) F3 (m_range := m_range) (h__law_pick := h__law_pick), PySem.W.mg_of X G a3, k3, F3.binds (ps := ["jar", "most", "far"]) fun _ _ _ _ _ _ us hl => match us, hl with | [_, _, _], _ => rfl⟩
  have F4 := fun_mk (st := s_is_integer) l4 c4 k4
  have h_is_integer : Has P w K mg base 1 "is_integer" (spLook isInt) := ⟨f4, _, ["value"], ok_is_integer (P := P) (w := w) (mg := mg) (base := base) F4 (m_isinstance := m_isinstance) (m_int := m_int) (m_bool := m_bool), PySem.W.mg_of X G a4, k4, F4.binds (ps := ["value"]) fun _ _ _ _ _ _ us hl => match us, hl with | [_], _ => rfl⟩
  have F5 := fun_mk (st := s_is_natural) l5 c5 k5
  have h_is_natural : Has P w K mg base 2 "is_natural" (spLook isNat) := ⟨f5, _, ["value"], ok_is_natural (P := P) (w := w) (mg := mg) (base := base) F5 (h_is_integer := h_is_integer), PySem.W.mg_of X G a5, k5, F5.binds (ps := ["value"]) fun _ _ _ _ _ _ us hl => match us, hl with | [_], _ => rfl⟩
  have F6 := fun_mk (st := s_is_band) l6 c6 k6
  have h_is_band : Has P w K mg base 3 "is_band" (spLook isBand) := ⟨f6, _, ["value"], ok_is_band (P := P) (w := w) (mg := mg) (base := base) F6 (m_isinstance := m_isinstance) (m_tuple := m_tuple) (m_len := m_len) (h_is_natural := h_is_natural), PySem.W.mg_of X G a6, k6, F6.binds (ps := ["value"]) fun _ _ _ _ _ _ us hl => match us, hl with | [_], _ => rfl⟩
  have F7 := fun_mk (st := s_is_stage) l7 c7 k7
  have h_is_stage : Has P w K mg base 4 "is_stage" (spLook isStage) := ⟨f7, _, ["value"], ok_is_stage (P := P) (w := w) (mg := mg) (base := base) F7 (m_isinstance := m_isinstance) (m_tuple := m_tuple) (m_str := m_str) (m_len := m_len) (h_is_integer := h_is_integer) (h_is_natural := h_is_natural) (h_is_band := h_is_band), PySem.W.mg_of X G a7, k7, F7.binds (ps := ["value"]) fun _ _ _ _ _ _ us hl => match us, hl with | [_], _ => rfl⟩
  have F8 := fun_mk (st := s_is_rate) l8 c8 k8
  have h_is_rate : Has P w K mg base 2 "is_rate" (spLook isRate) := ⟨f8, _, ["value"], ok_is_rate (P := P) (w := w) (mg := mg) (base := base) F8 (g_LEAST_RATE := g_LEAST_RATE) (h_is_integer := h_is_integer), PySem.W.mg_of X G a8, k8, F8.binds (ps := ["value"]) fun _ _ _ _ _ _ us hl => match us, hl with | [_], _ => rfl⟩
  have F9 := fun_mk (st := s__is_frame) l9 c9 k9
  have h__is_frame : Has P w K mg base 1 "_is_frame" (spLook isFrame) := ⟨f9, _, ["value"], ok_is_frame (P := P) (w := w) (mg := mg) (base := base) F9 (m_isinstance := m_isinstance) (m_tuple := m_tuple) (m_list := m_list) (m_len := m_len) (g_MOST_STAGES := g_MOST_STAGES), PySem.W.mg_of X G a9, k9, F9.binds (ps := ["value"]) fun _ _ _ _ _ _ us hl => match us, hl with | [_], _ => rfl⟩
  have F10 := fun_mk (st := s_mixing_tone) l10 c10 k10
  have h_mixing_tone : Has P w K mg base 1 "mixing_tone" spMixing := ⟨f10, _, ["stage", "dial"], ok_mixing_tone (P := P) (w := w) (mg := mg) (base := base) F10 , PySem.W.mg_of X G a10, k10, F10.binds (ps := ["stage", "dial"]) fun _ _ _ _ _ _ us hl => match us, hl with | [_, _], _ => rfl⟩
  have F11 := fun_mk (st := s_behind_stage) l11 c11 k11
  have h_behind_stage : Has P w K mg base 2 "behind_stage" spBehind := ⟨f11, _, ["stage", "dial", "number"], ok_behind_stage (P := P) (w := w) (mg := mg) (base := base) F11 (m_abs := m_abs) (h_mixing_tone := h_mixing_tone), PySem.W.mg_of X G a11, k11, F11.binds (ps := ["stage", "dial", "number"]) fun _ _ _ _ _ _ us hl => match us, hl with | [_, _, _], _ => rfl⟩
  have F12 := fun_mk (st := s_behind_sampler) l12 c12 k12
  have h_behind_sampler : Has P w K mg base 1 "behind_sampler" spSampler := ⟨f12, _, ["rate", "number"], ok_behind_sampler (P := P) (w := w) (mg := mg) (base := base) F12 (m_min := m_min), PySem.W.mg_of X G a12, k12, F12.binds (ps := ["rate", "number"]) fun _ _ _ _ _ _ us hl => match us, hl with | [_, _], _ => rfl⟩
  have F13 := fun_mk (st := s_check_receiver) l13 c13 k13
  have h_check_receiver : HasX P w K mg base 5 "check_receiver" (spRecvE C0) := ⟨f13, _, ["receiver"], ok_check_receiver (P := P) (w := w) (mg := mg) (base := base) F13 (T_InvalidReceiver := T_InvalidReceiver) (m_enumerate := m_enumerate) (m_len := m_len) (h__is_frame := h__is_frame) (h_is_stage := h_is_stage) (h_is_rate := h_is_rate), PySem.W.mg_of X G a13, k13, F13.binds (ps := ["receiver"]) fun _ _ _ _ _ _ us hl => match us, hl with | [_], _ => rfl⟩
  have F14 := fun_mk (st := s_check_dial) l14 c14 k14
  have h_check_dial : HasX P w K mg base 2 "check_dial" (spCheckE isInt C1) := ⟨f14, _, ["dial"], ok_check_dialE (P := P) (w := w) (mg := mg) (base := base) F14 (T_InvalidDial := T_InvalidDial) (h_is_integer := h_is_integer), PySem.W.mg_of X G a14, k14, F14.binds (ps := ["dial"]) fun _ _ _ _ _ _ us hl => match us, hl with | [_], _ => rfl⟩
  have F15 := fun_mk (st := s_check_signal) l15 c15 k15
  have h_check_signal : HasX P w K mg base 3 "check_signal" (spCheckE isNat C2) := ⟨f15, _, ["signal"], ok_check_signalE (P := P) (w := w) (mg := mg) (base := base) F15 (T_InvalidSignal := T_InvalidSignal) (h_is_natural := h_is_natural), PySem.W.mg_of X G a15, k15, F15.binds (ps := ["signal"]) fun _ _ _ _ _ _ us hl => match us, hl with | [_], _ => rfl⟩
  have F16 := fun_mk (st := s_stage_tones) l16 c16 k16
  have h_stage_tones : HasX P w K mg base 6 "stage_tones" (spStagesE C0 C1 C2) := ⟨f16, _, ["receiver", "dial", "signal"], ok_stage_tonesE (P := P) (w := w) (mg := mg) (base := base) F16 (h_check_receiver := h_check_receiver) (h_check_dial := h_check_dial) (h_check_signal := h_check_signal) (h_behind_stage := h_behind_stage) (h_behind_sampler := h_behind_sampler), PySem.W.mg_of X G a16, k16, F16.binds (ps := ["receiver", "dial", "signal"]) fun _ _ _ _ _ _ us hl => match us, hl with | [_, _, _], _ => rfl⟩
  have F17 := fun_mk (st := s_tone_at) l17 c17 k17
  have h_tone_at : HasX P w K mg base 7 "tone_at" (spToneE C0 C1 C2) := ⟨f17, _, ["receiver", "dial", "signal"], ok_tone_atE (P := P) (w := w) (mg := mg) (base := base) F17 (h_stage_tones := h_stage_tones), PySem.W.mg_of X G a17, k17, F17.binds (ps := ["receiver", "dial", "signal"]) fun _ _ _ _ _ _ us hl => match us, hl with | [_, _, _], _ => rfl⟩
  have F18 := fun_mk (st := s__law_call) l18 c18 k18
  have h__law_call : HasX P w K mg base 8 "_law_call" (spCallE C0 C1 C2) := ⟨f18, _, ["word", "args"], ok_law_call (P := P) (w := w) (mg := mg) (base := base) F18 (h_stage_tones := h_stage_tones) (h_tone_at := h_tone_at), PySem.W.mg_of X G a18, k18, F18.binds (ps := ["word", "args"]) fun _ _ _ _ _ _ us hl => match us, hl with | [_, _], _ => rfl⟩
  have F19 := fun_mk (st := s__law_is_int) l19 c19 k19
  have h__law_is_int : Has P w K mg base 1 "_law_is_int" spGe := ⟨f19, _, ["thing", "least"], ok_law_is_int (P := P) (w := w) (mg := mg) (base := base) F19 (m_isinstance := m_isinstance) (m_int := m_int) (m_bool := m_bool), PySem.W.mg_of X G a19, k19, F19.binds (ps := ["thing", "least"]) fun _ _ _ _ _ _ us hl => match us, hl with | [_, _], _ => rfl⟩
  have F20 := fun_mk (st := s__law_is_stage) l20 c20 k20
  have h__law_is_stage : Has P w K mg base 2 "_law_is_stage" (spLook isStage) := ⟨f20, _, ["thing"], ok_law_is_stage (P := P) (w := w) (mg := mg) (base := base) F20 (m_isinstance := m_isinstance) (m_tuple := m_tuple) (m_str := m_str) (m_len := m_len) (m_int := m_int) (m_bool := m_bool) (h__law_is_int := h__law_is_int), PySem.W.mg_of X G a20, k20, F20.binds (ps := ["thing"]) fun _ _ _ _ _ _ us hl => match us, hl with | [_], _ => rfl⟩
  have F21 := fun_mk (st := s__law_radio_fault) l21 c21 k21
  have h__law_radio_fault : Has P w K mg base 3 "_law_radio_fault" spFault := ⟨f21, _, ["thing"], ok_law_fault (P := P) (w := w) (mg := mg) (base := base) F21 (m_isinstance := m_isinstance) (m_tuple := m_tuple) (m_list := m_list) (m_len := m_len) (m_enumerate := m_enumerate) (m_int := m_int) (h__law_is_int := h__law_is_int) (h__law_is_stage := h__law_is_stage), PySem.W.mg_of X G a21, k21, F21.binds (ps := ["thing"]) fun _ _ _ _ _ _ us hl => match us, hl with | [_], _ => rfl⟩
  have F22 := fun_mk (st := s__law_odd_stages) l22 c22 k22
  have h__law_odd_stages : Has P w K mg base 1 "_law_odd_stages" spOddS := ⟨f22, _, [], ok_odd_stages (P := P) (w := w) (mg := mg) (base := base) F22 , PySem.W.mg_of X G a22, k22, F22.binds (ps := []) fun _ _ _ _ _ _ us hl => match us, hl with | [], _ => rfl⟩
  have F23 := fun_mk (st := s__law_odd_radios) l23 c23 k23
  have h__law_odd_radios : Has P w K mg base 2 "_law_odd_radios" spOddR := ⟨f23, _, ["radio"], ok_odd_radios (P := P) (w := w) (mg := mg) (base := base) F23 (m_tuple := m_tuple) (h__law_odd_stages := h__law_odd_stages), PySem.W.mg_of X G a23, k23, F23.binds (ps := ["radio"]) fun _ _ _ _ _ _ us hl => match us, hl with | [_], _ => rfl⟩
  have F24 := fun_mk (st := s__law_due) l24 c24 k24
  have h__law_due : HasG P w K mg base 4 "_law_due" spDueT := ⟨f24, _, ["args"], ok_law_due (P := P) (w := w) (mg := mg) (base := base) F24 (m_repr := m_repr) (m_isinstance := m_isinstance) (m_int := m_int) (m_bool := m_bool) (h__law_radio_fault := h__law_radio_fault) (h__law_is_int := h__law_is_int), PySem.W.mg_of X G a24, k24, F24.binds (ps := ["args"]) fun _ _ _ _ _ _ us hl => match us, hl with | [_], _ => rfl⟩
  have F25 := fun_mk (st := s__law_told) l25 c25 k25
  have h__law_told : HasG P w K mg base 9 "_law_told" spToldT := ⟨f25, _, ["word", "args"], ok_law_told (P := P) (w := w) (mg := mg) (base := base) F25 (T_InvalidReceiver := T_InvalidReceiver) (g_InvalidReceiver := g_InvalidReceiver) (g_InvalidDial := g_InvalidDial) (g_InvalidSignal := g_InvalidSignal) (g_InvalidNumber := g_InvalidNumber) (g_ToneError := g_ToneError) (m_repr := m_repr) (m_isinstance := m_isinstance) (h__law_call := h__law_call) (xDR := xDR) (xDD := xDD) (xSR := xSR) (xSD := xSD) (xSS := xSS) (eR := eR) (eD := eD) (eS := eS) (kR := kR) (kD := kD) (kS := kS), PySem.W.mg_of X G a25, k25, F25.binds (ps := ["word", "args"]) fun _ _ _ _ _ _ us hl => match us, hl with | [_, _], _ => rfl⟩
  have F26 := fun_mk (st := s__law_alone_right) l26 c26 k26
  have h__law_alone_right : HasG P w K mg base 10 "_law_alone_right" (spAlone K) := ⟨f26, _, ["word", "good", "bads"], ok_law_alone (P := P) (w := w) (mg := mg) (base := base) F26 (m_repr := m_repr) (m_enumerate := m_enumerate) (m_len := m_len) (h__law_told := h__law_told) (h__law_due := h__law_due), PySem.W.mg_of X G a26, k26, F26.binds (ps := ["word", "good", "bads"]) fun _ _ _ _ _ _ us hl => match us, hl with | [_, _, _], _ => rfl⟩
  have F27 := fun_mk (st := s_law) l27 c27 k27
  exact ok_law (P := P) (w := w) (mg := mg) (base := base) F27 (m_range := m_range) (m_max := m_max) (m_min := m_min) (m_len := m_len) (h__law_jar := h__law_jar) (h__law_pick := h__law_pick) (h__law_radio := h__law_radio) (h0_odd := h__law_odd_radios) (h__law_alone_right := h__law_alone_right)
theorem walk {l : PySem.W.OpenLaw} {q : Program} {loose : List Str} {XP : (Str → Option Value) → Heap → Prop} {YP : World → Heap → Prop} {d : DefRec} {K : Params → PySem.W.Frag} (hn : l.most = some 63) (hdf : d.params.defaults = [])
    (hY : ∀ (w : World) (h : Heap), YP w h → (K w.params).In h)
    (F : ∀ (w : World) (mg : Str → Option Value) (fa : Addr) (h : Heap), (K w.params).In h → h.Ns mainGlobals mg → mg d.name = some (.ref fa) →
      ∃ fd : FuncData, (∀ (s : Shared) (u : Value), BindsTo s fd ⟨[u], []⟩ [("script", u)]) ∧ ∀ base : Heap, (K w.params).In base → base.Ns mainGlobals mg → FnG l.prog w (K w.params) mg base CX0 11 fa fd ["script"] (spLaw (K w.params))) :
    PySem.W.WalkO q loose XP YP l.row.toRowW d [] (fun f vs => PySem.call f vs) :=
  walk_G (n := 63) (k := 11) (x := "script") (sp := fun K => spLaw K) hn (by decide) hdf ⟨rfl, by decide, by decide⟩ hY F (fun _ _ a ns hl _ hS => ⟨a, ns, rfl, Nat.le_trans hl (by decide), hS, fun _ => rfl⟩)
end Kx

open PySem PySem.W PyProof.Rows
set_option maxRecDepth 100000 in
set_option maxHeartbeats 0 in
theorem PySem.Challenge.cw_imagetones_k03_errors_of_receivers_holds : PySem.Challenge.rw_imagetones_k03_errors_of_receivers.Holds := by
  w_on; o_law; k_head; (case hw => w_witness2)
  k_fill
  refine Kx.walk (l := PySem.Challenge.rw_imagetones_k03_errors_of_receivers) rfl rfl (fun w h Y => PySem.W.kIn_of Y) ?F
  case F =>
    intro w mg fa h KX G hmg
    refine' Kx.all_mk KX G hmg ?hXa1 ?hXl1 ?hXc1 ?hXk1 ?hXa2 ?hXl2 ?hXc2 ?hXk2 ?hXa3 ?hXl3 ?hXc3 ?hXk3 ?hXa4 ?hXl4 ?hXc4 ?hXk4 ?hXa5 ?hXl5 ?hXc5 ?hXk5 ?hXa6 ?hXl6 ?hXc6 ?hXk6 ?hXa7 ?hXl7 ?hXc7 ?hXk7 ?hXa8 ?hXl8 ?hXc8 ?hXk8 ?hXa9 ?hXl9 ?hXc9 ?hXk9 ?hXa10 ?hXl10 ?hXc10 ?hXk10 ?hXa11 ?hXl11 ?hXc11 ?hXk11 ?hXa12 ?hXl12 ?hXc12 ?hXk12 ?hXa13 ?hXl13 ?hXc13 ?hXk13 ?hXa14 ?hXl14 ?hXc14 ?hXk14 ?hXa15 ?hXl15 ?hXc15 ?hXk15 ?hXa16 ?hXl16 ?hXc16 ?hXk16 ?hXa17 ?hXl17 ?hXc17 ?hXk17 ?hXa18 ?hXl18 ?hXc18 ?hXk18 ?hXa19 ?hXl19 ?hXc19 ?hXk19 ?hXa20 ?hXl20 ?hXc20 ?hXk20 ?hXa21 ?hXl21 ?hXc21 ?hXk21 ?hXa22 ?hXl22 ?hXc22 ?hXk22 ?hXa23 ?hXl23 ?hXc23 ?hXk23 ?hXa24 ?hXl24 ?hXc24 ?hXk24 ?hXa25 ?hXl25 ?hXc25 ?hXk25 ?hXa26 ?hXl26 ?hXc26 ?hXk26 ?hXa27 ?hXl27 ?hXc27 ?hXk27 ?hXz1 ?hXz2 ?hXz3 ?hXz4 ?hXz5 ?hXz6 ?hXz7 ?hXz8 ?hXz9 ?hXz10 ?hXz11 ?hXz12 ?hXz13 ?hXz14 ?hXy1 ?hXy2 ?hXg0 ?hXw0 ?hXeb0 ?hXty0 ?hXga0 ?hXgg0 ?hXhd0 ?hXxL0 ?hXrv0 ?hXsa0 ?hXno0 ?hXiC0 ?hXtC0 ?hXve0 ?hXme0 ?hXte0 ?hXsu0 ?hXli0 ?hXci0 ?hXlu0 ?hXlv0 ?hXvv0 ?hXfi0 ?hXhl0 ?hXg1 ?hXw1 ?hXeb1 ?hXty1 ?hXx1 ?hXg2 ?hXw2 ?hXeb2 ?hXty2 ?hXx2 ?hXg3 ?hXw3 ?hXeb3 ?hXty3 ?hXx3 ?hXg4 ?hXw4 ?hXeb4 ?hXty4 ?hXx4 ?hXop ?hXtp ?hXxDR ?hXxDD ?hXxSR ?hXxSD ?hXxSS ?hXeR ?hXeD ?hXeS ?hXkR ?hXkD ?hXkS
    (case hXa1 => k_is)
    (case hXl1 => k_is)
    (case hXc1 => k_is)
    (case hXk1 => k_is)
    (case hXa2 => k_is)
    (case hXl2 => k_is)
    (case hXc2 => k_is)
    (case hXk2 => k_is)
    (case hXa3 => k_is)
    (case hXl3 => k_is)
    (case hXc3 => k_is)
    (case hXk3 => k_is)
    (case hXa4 => k_is)
    (case hXl4 => k_is)
    (case hXc4 => k_is)
    (case hXk4 => k_is)
    (case hXa5 => k_is)
    (case hXl5 => k_is)
    (case hXc5 => k_is)
    (case hXk5 => k_is)
    (case hXa6 => k_is)
    (case hXl6 => k_is)
    (case hXc6 => k_is)
    (case hXk6 => k_is)
    (case hXa7 => k_is)
    (case hXl7 => k_is)
    (case hXc7 => k_is)
    (case hXk7 => k_is)
    (case hXa8 => k_is)
    (case hXl8 => k_is)
    (case hXc8 => k_is)
    (case hXk8 => k_is)
    (case hXa9 => k_is)
    (case hXl9 => k_is)
    (case hXc9 => k_is)
    (case hXk9 => k_is)
    (case hXa10 => k_is)
    (case hXl10 => k_is)
    (case hXc10 => k_is)
    (case hXk10 => k_is)
    (case hXa11 => k_is)
    (case hXl11 => k_is)
    (case hXc11 => k_is)
    (case hXk11 => k_is)
    (case hXa12 => k_is)
    (case hXl12 => k_is)
    (case hXc12 => k_is)
    (case hXk12 => k_is)
    (case hXa13 => k_is)
    (case hXl13 => k_is)
    (case hXc13 => k_is)
    (case hXk13 => k_is)
    (case hXa14 => k_is)
    (case hXl14 => k_is)
    (case hXc14 => k_is)
    (case hXk14 => k_is)
    (case hXa15 => k_is)
    (case hXl15 => k_is)
    (case hXc15 => k_is)
    (case hXk15 => k_is)
    (case hXa16 => k_is)
    (case hXl16 => k_is)
    (case hXc16 => k_is)
    (case hXk16 => k_is)
    (case hXa17 => k_is)
    (case hXl17 => k_is)
    (case hXc17 => k_is)
    (case hXk17 => k_is)
    (case hXa18 => k_is)
    (case hXl18 => k_is)
    (case hXc18 => k_is)
    (case hXk18 => k_is)
    (case hXa19 => k_is)
    (case hXl19 => k_is)
    (case hXc19 => k_is)
    (case hXk19 => k_is)
    (case hXa20 => k_is)
    (case hXl20 => k_is)
    (case hXc20 => k_is)
    (case hXk20 => k_is)
    (case hXa21 => k_is)
    (case hXl21 => k_is)
    (case hXc21 => k_is)
    (case hXk21 => k_is)
    (case hXa22 => k_is)
    (case hXl22 => k_is)
    (case hXc22 => k_is)
    (case hXk22 => k_is)
    (case hXa23 => k_is)
    (case hXl23 => k_is)
    (case hXc23 => k_is)
    (case hXk23 => k_is)
    (case hXa24 => k_is)
    (case hXl24 => k_is)
    (case hXc24 => k_is)
    (case hXk24 => k_is)
    (case hXa25 => k_is)
    (case hXl25 => k_is)
    (case hXc25 => k_is)
    (case hXk25 => k_is)
    (case hXa26 => k_is)
    (case hXl26 => k_is)
    (case hXc26 => k_is)
    (case hXk26 => k_is)
    (case hXa27 => k_is)
    (case hXl27 => k_is)
    (case hXc27 => k_is)
    (case hXk27 => k_is)
    (case hXz1 => k_is)
    (case hXz2 => k_is)
    (case hXz3 => k_is)
    (case hXz4 => k_is)
    (case hXz5 => k_is)
    (case hXz6 => k_is)
    (case hXz7 => k_is)
    (case hXz8 => k_is)
    (case hXz9 => k_is)
    (case hXz10 => k_is)
    (case hXz11 => k_is)
    (case hXz12 => k_is)
    (case hXz13 => k_is)
    (case hXz14 => k_is)
    (case hXy1 => k_is)
    (case hXy2 => k_is)
    (case hXg0 => k_is)
    (case hXw0 => k_is)
    (case hXeb0 => k_is)
    (case hXty0 => k_is)
    (case hXga0 => k_is)
    (case hXgg0 => k_is)
    (case hXhd0 => k_is)
    (case hXxL0 => k_is)
    (case hXrv0 => first | rfl | decide +kernel)
    (case hXsa0 => k_is)
    (case hXno0 => k_is)
    (case hXiC0 => k_is)
    (case hXtC0 => k_is)
    (case hXve0 => k_is)
    (case hXme0 => k_is)
    (case hXte0 => kernel_rfl)
    (case hXsu0 => kernel_rfl)
    (case hXli0 => k_is)
    (case hXci0 => k_is)
    (case hXlu0 => k_is)
    (case hXlv0 => k_is)
    (case hXvv0 => rfl)
    (case hXfi0 => first | rfl | decide +kernel)
    (case hXhl0 => rfl)
    (case hXg1 => k_is)
    (case hXw1 => k_is)
    (case hXeb1 => k_is)
    (case hXty1 => k_is)
    (case hXx1 => first | k_exc | kernel_rfl)
    (case hXg2 => k_is)
    (case hXw2 => k_is)
    (case hXeb2 => k_is)
    (case hXty2 => k_is)
    (case hXx2 => first | k_exc | kernel_rfl)
    (case hXg3 => k_is)
    (case hXw3 => k_is)
    (case hXeb3 => k_is)
    (case hXty3 => k_is)
    (case hXx3 => first | k_exc | kernel_rfl)
    (case hXg4 => k_is)
    (case hXw4 => k_is)
    (case hXeb4 => k_is)
    (case hXty4 => k_is)
    (case hXx4 => first | k_exc | kernel_rfl)
    (case hXop => k_is)
    (case hXtp => first | rfl | decide +kernel)
    (case hXxDR => kernel_rfl)
    (case hXxDD => kernel_rfl)
    (case hXxSR => kernel_rfl)
    (case hXxSD => kernel_rfl)
    (case hXxSS => kernel_rfl)
    (case hXeR => exact ⟨by kernel_rfl, by kernel_rfl, by kernel_rfl, by kernel_rfl, by kernel_rfl, by kernel_rfl, by kernel_rfl, by kernel_rfl⟩)
    (case hXeD => exact ⟨by kernel_rfl, by kernel_rfl, by kernel_rfl, by kernel_rfl, by kernel_rfl, by kernel_rfl, by kernel_rfl, by kernel_rfl⟩)
    (case hXeS => exact ⟨by kernel_rfl, by kernel_rfl, by kernel_rfl, by kernel_rfl, by kernel_rfl, by kernel_rfl, by kernel_rfl, by kernel_rfl⟩)
    (case hXkR => kernel_rfl)
    (case hXkD => kernel_rfl)
    (case hXkS => kernel_rfl)
