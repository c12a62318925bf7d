import PyProof.Rows.All
import Wide.All
import OpenK.AllK
import Wide.FinOn
import HandS.ForMost
import HandS.Evl
import HandS.Steps
import HandS.Wide
import HandS.IsInst
import HandS.Exc
import HandS.ExcOwn
import HandS.TryOnly
import HandS.WordsExc
import HandS.Defaults
import HandS.ExcSuper
import PyProof.ReprRoads
import PyProof.ReprLen
import HandS.FStr
import HandS.Style
import KE.KExcSuper
import KE.KSuper
import HandS.TryMany
import HandS.ExcIs
import KE.KExcIs
import HandS.ExcCtx
import HandS.HotCalls
import PyProof.Rows.TupIter
import PyProof.Rows.TupAssign
import PySem.Challenge.RW_imagetones_k49_written_texts
set_option Elab.async false
set_option linter.all false
set_option maxRecDepth 100000
namespace HX
open PySem PySem.Spec PyProof.Rows L2

/-! ### defs whose callers are known to be no repr of anything (so repr's own guard is silent) -/
structure FnG (P : Program) (w : World) (K : PySem.W.Frag) (mg : Str → Option Value) (base : Heap) (CX : CXT) (k : Nat) (f : Addr) (fd : FuncData) (ps : List Str) (sp : Sp) : Prop where
  len : ∀ vs H Q E, sp vs H Q E → vs.length = ps.length
  run : ∀ (A : Around) (outer : List Env) (s : Shared) (H : Hp) (args : Args) (us : List Value) (vs : List V) (Q : VK) (E : XK),
    A.guards = some [] → Room k A → Env0 P w K mg base A outer s H → BindsTo s fd args (ps.zip us) → Vals vs us → sp vs H Q E →
      codeAny (model P w) A (.call (.ref f) args) (CR CX outer P w H s Q E) s

section
variable {P : Program} {w : World} {K : PySem.W.Frag} {mg : Str → Option Value} {base : Heap} {CX : CXT} {k j : Nat} {f : Addr} {fd : FuncData} {ps : List Str} {sp : Sp}
theorem FnG.of (F : FnOk P w K mg base CX k f fd ps sp) : FnG P w K mg base CX k f fd ps sp :=
  ⟨F.len, fun A outer s H args us vs Q E _ => F.run A outer s H args us vs Q E⟩
theorem FnG.mono (F : FnG P w K mg base CX j f fd ps sp) (h : j ≤ k) : FnG P w K mg base CX k f fd ps sp :=
  ⟨F.len, fun A outer s H args us vs Q E g r => F.run A outer s H args us vs Q E g (r.mono h)⟩

theorem okG {x qual : Str} {st : Stmt} {N : List Str} (F : Fun K x qual st f fd) (S : FnScope N ps (defScope st)) (len : ∀ vs H Q E, sp vs H Q E → vs.length = ps.length)
    (hbody : ∀ (cdv : Value) (A : Around) (outer : List Env) (s : Shared) (H : Hp) (vs : List V) (Q : VK) (E : XK), A.guards = some [] →
      Room k (A.deeper (envOfC qual (defScope st) s.heap.objs.size f cdv)) → sp vs H Q E →
      ∃ t, PSs (cxOf CX P w K mg base N qual (defScope st) f cdv A outer s H E) (defBody st) t ∧ t { nx := fun _ H' => Q .non H', rt := Q } (start N vs) H) :
    FnG P w K mg base CX (k + 1) f fd ps sp := by
  obtain ⟨oc, od, kV, doc, pm, an, cdv, ct, osl, rfl, lk, hcd⟩ := F.ex
  constructor
  · exact len
  intro A outer s H args us vs Q E hgd hr e0 hb r hsp
  have hl := len _ _ _ _ hsp
  have kept : ∀ b o, base.get? b = some o → s.heap.get? b = some o := fun b o e => (e0.bs b o e).1
  have KX : K.In s.heap := e0.mod.kin.keeps kept
  have lim : s.heap.NoLimit := e0.mod.nolimit.keeps kept
  have hkind : ∀ y ∈ ps.zip us, (defScope st).names.lookup y.1 = some .local ∨
      ((defScope st).names.lookup y.1 = some .cell ∧ ((cellsFrom (s.heap.objs.size + 1) (defScope st).names []).lookup y.1).isSome = true) := by
    rintro ⟨n, v⟩ hy
    rcases S.par n (List.of_mem_zip hy).1 with q | q
    · exact .inl q
    · exact .inr ⟨q, PySem.W.cellsFrom_some _ _ _ (.inl q)⟩
  apply codeAny_call_function hr.depth (KX _ _ lk) rfl S.co S.gen rfl (PySem.W.codeRec_of KX hcd)
  apply hb
  refine wpAny_newFunctionEnv_cells S.kind hkind fun env he s1 x => ?_
  subst he
  refine ⟨lim.keeps x.toInCall.keep, codeAny_func ?_⟩
  obtain ⟨t, ht, hq⟩ := hbody cdv A outer s H vs Q E hgd (hr.deeper _) hsp
  have I := inv_start (CX := CX) (E := E) S hr.hd e0 hl r x
  refine wpAny_mono (ht.run [] s1 (start N vs) H _ I hq) (fun fl s' hs => ?_) fun e s' hs => hs
  cases fl with
  | ret u => obtain ⟨v, σ', H', J, rv, q⟩ := hs; exact ⟨v, H', J.os, J.bare, J.base, J.hok, rv, q⟩
  | next => obtain ⟨σ', H', J, q⟩ := hs; exact ⟨V.non, H', J.os, J.bare, J.base, J.hok, rfl, q⟩
  | brk => obtain ⟨_, _, _, q⟩ := hs; exact q.elim
  | cont => obtain ⟨_, _, _, q⟩ := hs; exact q.elim
end

section
variable {X : Cx} {CX : CXT} {k : Nat} {f : Addr} {fd : FuncData} {ps : List Str} {sp : Sp} {dvs : List V} {ds : List Value} {E : XK} {x : Str} {p pos : Pos} {e : Expr} {es : List Expr} {t : TA}
theorem run_g {pins : List (Addr × Obj)} {σ : L2.St} {H : Hp} {s : Shared} {Q : VK} {us : List Value} {vs : List V} (F : FnG X.prog X.w X.K X.mg X.base CX k f fd ps sp) (hgd : X.A.guards = some []) (hr : Room k X.A)
    (hb : Binds X.K fd ps ds) (hd : Vals dvs ds) (hx : Passes CX X E) (I : Inv X pins σ H s) (r : Vals vs us) (h : sp (vs ++ dvs) H Q E) :
    wpAny (model X.prog X.w) X.A (call (.ref f) us) (EP X pins σ Q) X.xe s := by
  have r2 : Vals (vs ++ dvs) (us ++ ds) := r.append hd
  have hl : (us ++ ds).length = ps.length := r2.length.symm.trans (F.len _ _ _ _ h)
  apply wpAny_call
  refine codeAny_mono (F.run X.A X.stack s H ⟨us, []⟩ (us ++ ds) (vs ++ dvs) Q E hgd hr I.env0 (hb s us I.kIn hl) r2 h) ?_
  intro r s' hq
  match r, hq with
  | .error e, hq => exact hx pins σ H s e s' I hq
  | .ok (.ret u), hq => exact I.after hq

/-- f(e, ..) of such a def -/
theorem pe_callG (F : FnG X.prog X.w X.K X.mg X.base CX k f fd ps sp) (hgd : X.A.guards = some []) (hr : Room k X.A) (hg : Gl X x) (hm : X.mg x = some (.ref f)) (hk : PySem.W.keepIn X.K (.ref f) = true)
    (hb : Binds X.K fd ps ds) (hd : Vals dvs ds) (hx : Passes CX X E) (ha : PA X (e :: es) t) (hdb : (x == ("__debug__" : Str)) = false := by decide)
    (he : starEach (e :: es) X.env = (false, eval e X.env) :: starEach es X.env := by rfl) (hpl : (backTo pos (starEach es X.env)).any (·.1) = false := by rfl) :
    PE X (.Call (.Name x p) (e :: es) [] pos) (tCall sp dvs E t) := by
  constructor
  intro pins s σ H Q I h
  apply wpAny_Call_Name_kw
  refine ld_glob I hg hm ?_ hdb
  refine PySem.W.callWith_K (h₀ := X.base) I.ok.mod.kin hk ?_ he hpl
  refine thn (ha.run pos pins s σ H _ I h) ?_
  rintro us s1 ⟨vs, H1, I1, r, q⟩
  exact ⟨I1.kIn, run_g F hgd hr hb hd hx I1 r q⟩
end

/-! ### numbers -/
section
variable {X : Cx}
/-- ** of a base of at most b bits with a written exponent -/
def CPowW (i j : Int) : Prop := 0 ≤ j ∧ (Builtin.Int.intBits i : Int) * j ≤ 2 ^ 27
theorem op_powW : OpR X (binaryOp .Pow) (rI CPowW fun i j => .int (i ^ j.toNat)) := opI fun _ _ _ _ _ _ _ hc q => PyProof.Rows.pow_int hc.1 hc.2 q
end
theorem wide_pow {i j : Int} {b : Nat} (h : i.natAbs < 2 ^ b) (h0 : 0 ≤ j) (hb : ((b : Int) + 1) * j ≤ 2 ^ 27) : CPowW i j := by
  have hle : Builtin.Int.intBits i ≤ b + 1 := by
    unfold Builtin.Int.intBits
    split
    · omega
    · rename_i hz
      by_cases hb0 : b = 0
      · subst hb0
        have hz0 : i.natAbs = 0 := by simpa using h
        rw [hz0]
        decide
      · have hq : i.natAbs.log2 < b := PySem.Flt.log2_lt_of (Nat.pos_of_ne_zero hb0) h
        omega
  refine ⟨h0, Int.le_trans ?_ hb⟩
  exact Int.mul_le_mul_of_nonneg_right (by omega) h0
end HX

set_option Elab.async false
set_option linter.all false
set_option maxRecDepth 100000
namespace HX
open PySem PySem.Spec PyProof.Rows L2

/-! ### data at any depth that is tracked: none, bools, ints, texts, lists, tuples, the empty dict -/
mutual
inductive Dq (H : Hp) : V → PyData → Prop
  | non : Dq H .non .none
  | bl (b : Bool) : Dq H (.bl b) (.bool b)
  | int (i : Int) : Dq H (.int i) (.int i)
  | str (x : Str) : Dq H (.str x) (.str x)
  | lst {a : Addr} {xs : List V} {ds : List PyData} : Rd H a (.lst xs) → DqAll H xs ds → Dq H (.ref a) (.list ds)
  | tup {a : Addr} {xs : List V} {ds : List PyData} : Rd H a (.tup xs) → DqAll H xs ds → Dq H (.ref a) (.tuple ds)
  | dic {a : Addr} : H a = some (.dK []) → Dq H (.ref a) (.dict [])
inductive DqAll (H : Hp) : List V → List PyData → Prop
  | nil : DqAll H [] []
  | cons {v : V} {vs : List V} {d : PyData} {ds : List PyData} : Dq H v d → DqAll H vs ds → DqAll H (v :: vs) (d :: ds)
end

open Evl (Ex)
mutual
theorem Dq.ex {H H' : Hp} (e : Ex H H') : ∀ {v : V} {d : PyData}, Dq H v d → Dq H' v d
  | _, _, .non => .non
  | _, _, .bl b => .bl b
  | _, _, .int i => .int i
  | _, _, .str x => .str x
  | _, _, .lst h k => .lst (Evl.ex_rd e h) (DqAll.ex e k)
  | _, _, .tup h k => .tup (Evl.ex_rd e h) (DqAll.ex e k)
  | _, _, .dic h => .dic (e _ _ h)
theorem DqAll.ex {H H' : Hp} (e : Ex H H') : ∀ {vs : List V} {ds : List PyData}, DqAll H vs ds → DqAll H' vs ds
  | _, _, .nil => .nil
  | _, _, .cons h k => .cons (Dq.ex e h) (DqAll.ex e k)
end
theorem DqAll.len {H : Hp} : ∀ {vs : List V} {ds : List PyData}, DqAll H vs ds → vs.length = ds.length
  | _, _, .nil => rfl
  | _, _, .cons _ k => congrArg (· + 1) k.len
theorem DqAll.app {H : Hp} : ∀ {vs ws : List V} {ds es : List PyData}, DqAll H vs ds → DqAll H ws es → DqAll H (vs ++ ws) (ds ++ es)
  | _, _, _, _, .nil, k => k
  | _, _, _, _, .cons h t, k => .cons h (t.app k)
theorem DqAll.get {H : Hp} : ∀ {vs : List V} {ds : List PyData} {i : Nat} {v : V}, DqAll H vs ds → vs[i]? = some v → ∃ d, ds[i]? = some d ∧ Dq H v d
  | _, _, _, _, .nil, e => by simp at e
  | _, _, 0, _, .cons h _, e => by simp at e; subst e; exact ⟨_, rfl, h⟩
  | _, _, i + 1, v, .cons _ t, e => by
    obtain ⟨d, h1, h2⟩ := DqAll.get (i := i) (v := v) t (by simpa using e)
    exact ⟨d, by simpa using h1, h2⟩
theorem DqAll.one {H : Hp} {v : V} {d : PyData} (h : Dq H v d) : DqAll H [v] [d] := .cons h .nil
theorem DqAll.rep {H : Hp} {v : V} {d : PyData} (h : Dq H v d) : ∀ n, DqAll H (List.replicate n v) (List.replicate n d)
  | 0 => .nil
  | n + 1 => .cons h (DqAll.rep h n)
theorem DqAll.take {H : Hp} : ∀ {vs : List V} {ds : List PyData} (n : Nat), DqAll H vs ds → DqAll H (vs.take n) (ds.take n)
  | _, _, 0, _ => by simpa using DqAll.nil
  | _, _, _ + 1, .nil => by simpa using DqAll.nil
  | _, _, n + 1, .cons h t => by simpa using DqAll.cons h (t.take n)
theorem DqAll.drop {H : Hp} : ∀ {vs : List V} {ds : List PyData} (n : Nat), DqAll H vs ds → DqAll H (vs.drop n) (ds.drop n)
  | _, _, 0, k => by simpa using k
  | _, _, _ + 1, .nil => by simpa using DqAll.nil
  | _, _, n + 1, .cons h t => by simpa using t.drop n
/-- an object of data is none that changes: what changes is elsewhere -/
theorem dq_ne {H : Hp} {a : Addr} {o u : HO} (h : H a = some o) (k : Rd H a u) (d : o ≠ u) (f : ∀ ob, o ≠ .frz ob u) : False := by
  rcases k with k | ⟨ob, k⟩
  · exact d (Option.some.inj (h.symm.trans k))
  · exact f ob (Option.some.inj (h.symm.trans k))

mutual
theorem Dq.dp {K : PySem.W.Frag} {H : Hp} : ∀ {v : V} {d : PyData}, Dq H v d → d.hasDict = false → Dp K H v d
  | _, _, .non, _ => .non
  | _, _, .bl b, _ => .bl b
  | _, _, .int i, _ => .int i
  | _, _, .str x, _ => .str x
  | _, _, .lst h k, e => .lst (.inl h) (DqAll.dp k (by simpa [PyData.hasDict] using e))
  | _, _, .tup h k, e => .tup (.inl h) (DqAll.dp k (by simpa [PyData.hasDict] using e))
  | _, _, .dic h, e => by simp [PyData.hasDict] at e
theorem DqAll.dp {K : PySem.W.Frag} {H : Hp} : ∀ {vs : List V} {ds : List PyData}, DqAll H vs ds → PyData.hasDictAll ds = false → DpAll K H vs ds
  | _, _, .nil, _ => .nil
  | _, _, .cons h k, e => by
    simp only [PyData.hasDictAll, Bool.or_eq_false_iff] at e
    exact .cons (h.dp e.1) (k.dp e.2)
end

section
variable {X : Cx} {pins : List (Addr × Obj)} {σ : L2.St} {H : Hp} {s : Shared}
/-- an empty dict that is tracked, as the heap has it -/
theorem dic_at (I : Inv X pins σ H s) {a : Addr} (h : H a = some (.dK [])) : ∃ o n, s.heap.get? a = some o ∧ o.cls = .type "dict" ∧ o.data = .dict #[] n ∧ (a == sysModules) = false := by
  obtain ⟨_, hsys, vs, kv, o, es, ep, h1, h2, h3, h4⟩ := (show ObjOk X.prog X.w H s.heap a (.dK []) from I.hok a _ h)
  cases kv
  have he : es.toList = [] := List.length_eq_zero_iff.mp (by simpa using h4.2.1.length)
  have he2 : es = #[] := by cases es; simpa using he
  exact ⟨o, ep, h1, h2.1, by rw [← he2]; exact h3, hsys⟩
mutual
theorem Dq.rk (I : Inv X pins σ H s) : ∀ {d : PyData} {v : V} {u : Value}, Dq H v d → RelV v u → d.showable = true → d.shown.length ≤ sizeLine →
    ∃ as bs, Reads s.heap u d as ∧ ReadAtMost s.heap d.depth bs ∧ ReprK X.prog X.w bs s.heap d.depth u d.shown
  | _, _, _, .non, r, _, _ => by cases r; exact ⟨_, [], Reads.none, (fun _ h => nomatch h), by simp only [PyData.shown]; exact .of_is ReprIs.none _ _ _⟩
  | _, _, _, .bl b, r, _, _ => by cases r; exact ⟨_, [], Reads.bool b, (fun _ h => nomatch h), by simp only [PyData.shown]; exact .of_is (ReprIs.bool b) _ _ _⟩
  | _, _, _, .int i, r, hs, _ => by
    obtain ⟨t, rfl⟩ := r
    exact ⟨_, [], Reads.int i t, (fun _ h => nomatch h), by simp only [PyData.shown]; exact .of_is (ReprIs.int t (by simpa [PyData.showable] using hs)) _ _ _⟩
  | _, _, _, .str x, r, _, hz => by
    obtain ⟨t, rfl⟩ := r
    exact ⟨_, [], Reads.str x t, (fun _ h => nomatch h), by simp only [PyData.shown]; exact .of_is (ReprIs.str x t (by simpa only [PyData.shown] using hz)) _ _ _⟩
  | _, _, _, .lst (a := a) (ds := ds) hs ha, r, hw, hz => by
    cases r
    have hz' : (listText (PyData.shownAll ds)).length ≤ sizeLine := by simpa only [PyData.shown] using hz
    obtain ⟨its, rv, ⟨o, n, ho, hc, _, hd⟩, _⟩ := I.list (X := X) (Or.inl hs)
    obtain ⟨as, bs, hr, hb, hk⟩ := DqAll.rk I ha rv (by simpa [PyData.showable] using hw) (fun t ht => Nat.le_trans (listText_mem_le ht) hz')
    have r : Reads s.heap (.ref a) (.list ds) _ := .list ho hc hd (by simpa using hr)
    have hna : a ∉ bs := not_mem_of_deeper r (by simp only [PyData.depth]; omega) hb
    refine ⟨_, a :: bs, r, ReadAtMost.cons r (by simp only [PyData.depth]; omega) hb, ?_⟩
    simp only [PyData.depth, PyData.shown]
    cases its with
    | nil =>
      cases hr
      simp only [PyData.shownAll, listText_nil]
      exact ReprK.listEmpty ho hc hd
    | cons x l => exact ReprK.list ho hc hd hna (by simpa using hk.length_eq) (fun i y e => hk.item i y (by simpa using e))
  | _, _, _, .tup (a := a) (ds := ds) hs ha, r, hw, hz => by
    cases r
    have hz' : (tupleText (PyData.shownAll ds)).length ≤ sizeLine := by simpa only [PyData.shown] using hz
    obtain ⟨its, rv, ⟨o, ho, hc, n, hd⟩, _⟩ := I.tuple (X := X) (Or.inl hs)
    obtain ⟨as, bs, hr, hb, hk⟩ := DqAll.rk I ha rv (by simpa [PyData.showable] using hw) (fun t ht => Nat.le_trans (tupleText_mem_le ht) hz')
    have r : Reads s.heap (.ref a) (.tuple ds) _ := .tuple ho hc hd (by simpa using hr)
    have hna : a ∉ bs := not_mem_of_deeper r (by simp only [PyData.depth]; omega) hb
    refine ⟨_, a :: bs, r, ReadAtMost.cons r (by simp only [PyData.depth]; omega) hb, ?_⟩
    simp only [PyData.depth, PyData.shown]
    exact ReprK.tuple ho hc hd hna (by simpa using hk)
  | _, _, _, .dic (a := a) ha, r, _, _ => by
    cases r
    obtain ⟨o, n, ho, hc, hd, hsys⟩ := dic_at I ha
    have r : Reads s.heap (.ref a) (.dict []) _ := .dict (kvs := []) ho hc hd .nil .nil
    refine ⟨_, [a], r, ReadAtMost.cons r (Nat.le_refl _) (fun _ h => nomatch h), ?_⟩
    simp only [PyData.depth, PyData.shown, PyData.shownKv]
    exact ReprK.dict ho hc hd hsys (by simp) .nil
theorem DqAll.rk (I : Inv X pins σ H s) : ∀ {ds : List PyData} {vs : List V} {us : List Value}, DqAll H vs ds → Vals vs us → PyData.showableAll ds = true → (∀ t ∈ PyData.shownAll ds, t.length ≤ sizeLine) →
    ∃ as bs, ReadsAll s.heap us ds as ∧ ReadAtMost s.heap (PyData.depthAll ds) bs ∧ ReprAllK X.prog X.w bs s.heap (PyData.depthAll ds) us (PyData.shownAll ds)
  | _, _, _, .nil, r, _, _ => by cases r; exact ⟨_, [], ReadsAll.nil, (fun _ h => nomatch h), by simp only [PyData.shownAll]; exact .nil⟩
  | _, _, _, .cons (d := d) (ds := ds) h1 h2, r, hw, hz => by
    cases r with
    | cons r1 r2 =>
      have hw' : d.showable = true ∧ PyData.showableAll ds = true := by simpa [PyData.showableAll] using hw
      obtain ⟨as, b1, q1, z1, k1⟩ := Dq.rk I h1 r1 hw'.1 (hz _ (by simp only [PyData.shownAll]; exact List.mem_cons_self))
      obtain ⟨cs, b2, q2, z2, k2⟩ := DqAll.rk I h2 r2 hw'.2 (fun t ht => hz t (by simp only [PyData.shownAll]; exact List.mem_cons_of_mem _ ht))
      refine ⟨_, b1 ++ b2, ReadsAll.cons q1 q2, ?_, ?_⟩
      · simp only [PyData.depthAll]
        exact (z1.mono (Nat.le_max_left _ _)).append (z2.mono (Nat.le_max_right _ _))
      · simp only [PyData.depthAll, PyData.shownAll]
        exact .cons ((k1.more fun b hb => List.mem_append_left _ hb).level_le (Nat.le_max_left _ _)) (k2.more_le (fun b hb => List.mem_append_right _ hb) (Nat.le_max_right _ _))
end
end

/-! ### repr of data -/
/-- what is asked of data that is shown: its ints are no giants, its text is not too long, it is not too deep -/
def Shw (d : PyData) : Prop := d.showable = true ∧ d.shown.length ≤ sizeLine ∧ d.depth ≤ 60
def rRepr : List V → Hp → VK → Prop := fun xs H Q => ∃ x d, xs = [x] ∧ Dq H x d ∧ Shw d ∧ Q (.str d.shown) H
section
variable {X : Cx}
theorem call_repr (hgd : X.A.guards = some []) (hu : X.A.units + 64 < cLine) : CallR X (.builtin "repr") rRepr := by
  intro pins s σ H xs us Q I r h
  obtain ⟨x, d, rfl, hd, ⟨hs, hz, hdp⟩, q⟩ := h
  obtain ⟨u, rfl, rx⟩ := vals1 r
  have fin : ∀ (h' : Heap) (u : Tok) (tk : Nat), (∀ b o, s.heap.get? b = some o → h'.get? b = some o) → EP X pins σ Q (.str d.shown u) { s with heap := h', toks := tk } :=
    fun h' u tk hk => ⟨.str d.shown, H, I.kept hk, ⟨_, rfl⟩, q⟩
  cases hd with
  | non => cases rx; exact PySem.P.repr_of_none (by simpa [PyData.shown] using fin s.heap _ _ fun _ _ e => e)
  | bl b => cases rx; exact PySem.P.repr_of_bool (by simpa [PyData.shown] using fin s.heap _ _ fun _ _ e => e)
  | int i => obtain ⟨t, rfl⟩ := rx; exact PySem.P.repr_of_int (by simpa [PyData.showable] using hs) (by simpa [PyData.shown] using fin s.heap _ _ fun _ _ e => e)
  | str y => obtain ⟨t, rfl⟩ := rx; exact PySem.P.repr_of_str (by simpa [PyData.shown] using fin s.heap _ _ fun _ _ e => e) (by simpa [PyData.shown] using hz)
  | lst h1 h2 =>
    rename_i a xs ds
    cases rx
    have hz' : (listText (PyData.shownAll ds)).length ≤ sizeLine := by simpa only [PyData.shown] using hz
    obtain ⟨its, rv, ⟨o, n, ho, hc, _, hd⟩, _⟩ := I.list (X := X) (Or.inl h1)
    obtain ⟨as, bs, hr, hb, hk⟩ := DqAll.rk I h2 rv (by simpa [PyData.showable] using hs) (fun t ht => Nat.le_trans (listText_mem_le ht) hz')
    have hna : a ∉ bs := not_mem_of_deeper (.list ho hc hd (by simpa using hr)) (by simp only [PyData.depth]; omega) hb
    simp only [PyData.depth] at hdp
    simp only [PyData.shown] at fin
    refine call_repr_slot (by omega) ⟨o, ho, hc⟩ F.slot_list_repr.toG ?_
    cases its with
    | nil =>
      cases hr
      simp only [PyData.shownAll, listText_nil] at fin
      exact call_list_repr_empty ⟨o, ho, hc⟩ ho hd ⟨_, _, rfl, fin s.heap _ _ fun _ _ e => e⟩
    | cons x l =>
      exact call_list_reprK ho hc hd hna (by simpa using hk.length_eq) (fun i y e => hk.item i y (by simpa using e)) hgd (fun b _ => Clear.nil b) (by show X.A.units + 1 + _ < cLine; omega) (fun _ _ e => e)
        (fun h' u tk hk => ⟨_, _, rfl, fin h' u tk hk⟩) hz'
  | tup h1 h2 =>
    rename_i a xs ds
    cases rx
    have hz' : (tupleText (PyData.shownAll ds)).length ≤ sizeLine := by simpa only [PyData.shown] using hz
    obtain ⟨its, rv, ⟨o, ho, hc, n, hd⟩, _⟩ := I.tuple (X := X) (Or.inl h1)
    obtain ⟨as, bs, hr, hb, hk⟩ := DqAll.rk I h2 rv (by simpa [PyData.showable] using hs) (fun t ht => Nat.le_trans (tupleText_mem_le ht) hz')
    have hna : a ∉ bs := not_mem_of_deeper (.tuple ho hc hd (by simpa using hr)) (by simp only [PyData.depth]; omega) hb
    simp only [PyData.depth] at hdp
    simp only [PyData.shown] at fin
    exact call_repr_slot (by omega) ⟨o, ho, hc⟩ F.slot_tuple_repr
      (call_tuple_reprK ho hc hd hna (by simpa using hk) hgd (fun b _ => Clear.nil b) (by show X.A.units + 1 + _ < cLine; omega) (fun _ _ e => e) (fun h' u tk hk => ⟨_, _, rfl, fin h' u tk hk⟩) hz')
  | dic h1 =>
    cases rx
    obtain ⟨o, n, ho, hc, hd, hsys⟩ := dic_at I h1
    simp only [PyData.shown, PyData.shownKv] at fin hz
    exact call_repr_slot (by omega) ⟨o, ho, hc⟩ F.slot_dict_repr
      (call_dict_reprK (as := []) (d := 0) ho hc hd hsys (by simp) .nil hgd (fun b _ => Clear.nil b) (by show X.A.units + 1 + _ < cLine; omega) (fun _ _ e => e) (fun h' u tk hk => ⟨_, _, rfl, fin h' u tk hk⟩) hz)
end
end HX

set_option Elab.async false
set_option linter.all false
set_option maxRecDepth 100000
namespace HX
open PySem PySem.Spec PyProof.Rows L2

/-! ### the end of a law whose def is an FnG -/
section
variable {P : Program} {w : World} {K : PySem.W.Frag} {mg mb : Str → Option Value} {k : Nat} {fa a : Addr} {fd : FuncData} {x : Str} {sp : Sp} {s₁ : Shared} {vs : List Value} {ns : List Int}
/-- what is wanted of the law's call -/
def LawEnd (s₁ : Shared) : Result → Shared → Prop := fun r s' => r = .ok (.ret (.bool true)) ∧ OldK s₁.heap s'.heap ∧ s'.os = s₁.os ∧ AllBare s'.gens
/-- the tracked heap at the start: the script, or nothing -/
theorem law_from (KX : K.In s₁.heap) (hns : s₁.heap.Ns mainGlobals mg) (hb : s₁.heap.Ns builtinsNs mb) (hbb : ∀ x : Str, x ≠ "__name__" → mb x = bootBuiltins x) (hlim : s₁.heap.NoLimit) (hg : s₁.gens = #[])
    (hr : Room k callerA) (FF : ∀ base : Heap, K.In base → base.Ns mainGlobals mg → FnG P w K mg base CX0 k fa fd [x] sp) (hbind : ∀ (s : Shared) (u : Value), BindsTo s fd ⟨[u], []⟩ [(x, u)])
    (hsp : ∀ H : Hp, Only H → SqL K H a (ns.map V.int) → sp [.ref a] H (fun v _ => v = .bl true) fun _ _ _ => False)
    (H : Hp) (hO : Only H) (hS : SqL K H a (ns.map V.int)) (hok : HOk P w H s₁.heap) (hn : ∀ b o, s₁.heap.get? b = some o → H b ≠ none → o.cls = .type "list" ∧ ∃ its n, o.data = .seq its n) (hK : ∀ b o, K.lookup b = some o → H b = none) :
    codeAny (model P w) callerA (.call (.ref fa) ⟨[.ref a], []⟩) (LawEnd s₁) s₁ := by
  have up : ∀ {b : Addr} {m : Str → Option Value}, s₁.heap.Ns b m → (hidT s₁.heap H).Ns b m := by
    rintro b m ⟨o, es, ep, e, d, r⟩
    have hb0 : H b = none := by
      cases q : H b with
      | none => rfl
      | some u =>
        obtain ⟨_, its, n, z⟩ := hn b o e (by rw [q]; simp)
        rw [d] at z; cases z
    exact ⟨o, es, ep, hidT_get e hb0, d, r⟩
  have hKb : K.In (hidT s₁.heap H) := fun b o e => hidT_get (KX b o e) (hK b o e)
  obtain ⟨mc, l1, l2⟩ := hlim
  have hM : Mod K mg (hidT s₁.heap H) := ⟨hKb, up hns, ⟨mb, up hb, hbb⟩, mc, up l1, l2⟩
  have e0 : Env0 P w K mg (hidT s₁.heap H) callerA [] s₁ H :=
    { frames := rfl, mod := hM, bs := fun b o e => of_hidT e, bsz := Nat.le_of_eq (hidT_size _ _), funs := trivial, frf := fun b z => absurd (show b ∈ ([] : List Addr) from z) (by simp), hok := hok, bare := .of_eq hg }
  refine codeAny_mono ((FF _ hKb (up hns)).run callerA [] s₁ H ⟨[.ref a], []⟩ [.ref a] [.ref a] _ _ rfl hr e0 (hbind s₁ (.ref a)) (.cons rfl .nil) (hsp H hO hS)) ?_
  intro r s' h
  match r, h with
  | .error e, h => exact h.elim
  | .ok (.ret u), ⟨v, H', os, bare, un, hok', r', q⟩ =>
    have q' : v = .bl true := q
    subst q'
    cases (show u = Value.bool true from r')
    refine ⟨rfl, OldK.of_keep fun b o e => ?_, os, bare⟩
    rcases hO b with z | ⟨ob, xs, z⟩
    · exact un.keep b o e z (fun m => absurd (show b ∈ ([] : List Addr) from m) (by simp)) (by simp)
    · obtain ⟨e1, _⟩ := hok b _ z
      obtain ⟨e2, _⟩ := hok' b _ (un.frzs b ob _ z)
      rw [e] at e1; cases e1
      exact e2
theorem law_callG (KX : K.In s₁.heap) (hns : s₁.heap.Ns mainGlobals mg) (hb : s₁.heap.Ns builtinsNs mb) (hbb : ∀ x : Str, x ≠ "__name__" → mb x = bootBuiltins x) (hlim : s₁.heap.NoLimit) (hg : s₁.gens = #[])
    (ha : s₁.heap.get? a = some { cls := .type "list", data := .seq vs.toArray }) (hi : IntsAre vs ns) (hl : ns.length ≤ sizeLine)
    (hr : Room k callerA) (FF : ∀ base : Heap, K.In base → base.Ns mainGlobals mg → FnG P w K mg base CX0 k fa fd [x] sp) (hbind : ∀ (s : Shared) (u : Value), BindsTo s fd ⟨[u], []⟩ [(x, u)])
    (hsp : ∀ H : Hp, Only H → SqL K H a (ns.map V.int) → sp [.ref a] H (fun v _ => v = .bl true) fun _ _ _ => False) :
    codeAny (model P w) callerA (.call (.ref fa) ⟨[.ref a], []⟩) (LawEnd s₁) s₁ := by
  have rv := vals_ints hi
  have lenV := hi.length
  cases hk : K.lookup a with
  | some o =>
    have e := KX a o hk
    rw [ha] at e
    cases e
    have hS : SqL K (fun _ => none) a (ns.map V.int) := .inr ⟨_, vs.toArray, _, hk, rfl, rfl, rfl, by rw [List.size_toArray, lenV]; exact hl, by simpa using rv⟩
    exact law_from KX hns hb hbb hlim hg hr FF hbind hsp (fun _ => none) (fun _ => .inl rfl) hS (fun b u z => nomatch z) (fun b o _ z => absurd rfl z) (fun _ _ _ => rfl)
  | none =>
    let H : Hp := fun b => if b = a then some (.frz { cls := .type "list", data := .seq vs.toArray } (.lst (ns.map V.int))) else none
    have Ha : H a = some (.frz { cls := .type "list", data := .seq vs.toArray } (.lst (ns.map V.int))) := if_pos rfl
    have Hn : ∀ b, b ≠ a → H b = none := fun b z => if_neg z
    refine law_from KX hns hb hbb hlim hg hr FF hbind hsp H (fun b => ?_) (.inl (.inr ⟨_, Ha⟩)) (fun b u z => ?_) (fun b o e z => ?_) (fun b o e => ?_)
    · by_cases hb : b = a
      · subst hb; exact .inr ⟨_, _, Ha⟩
      · exact .inl (Hn b hb)
    · by_cases hb : b = a
      · subst hb
        rw [Ha] at z
        cases z
        exact ⟨ha, by rw [List.length_map]; exact hl, vs, _, rv, ha⟩
      · rw [Hn b hb] at z
        cases z
    · by_cases hb : b = a
      · subst hb
        rw [ha] at e
        cases e
        exact ⟨rfl, _, _, rfl⟩
      · exact absurd (Hn b hb) z
    · refine Hn b fun z => ?_
      subst z
      rw [hk] at e
      cases e
end
/-- as walk_ofK of the layer, for an FnG -/
theorem walk_G {l : PySem.W.OpenLaw} {n k : Nat} {q : Program} {loose : List Str} {XP : (Str → Option Value) → Heap → Prop} {YP : World → Heap → Prop} {d : DefRec} {K : Params → PySem.W.Frag} {sp : PySem.W.Frag → Sp} {x : Str}
    (hn : l.most = some n) (hn2 : n ≤ sizeLine) (hdf : d.params.defaults = []) (hr : Room k callerA) (hY : ∀ (w : World) (h : Heap), YP w h → (K w.params).In h)
    (FF : ∀ (w : World) (mg : Str → Option Value) (fa : Addr) (h : Heap), (K w.params).In h → h.Ns mainGlobals mg → mg d.name = some (.ref fa) →
      ∃ fd : FuncData, (∀ (s : Shared) (u : Value), BindsTo s fd ⟨[u], []⟩ [(x, u)]) ∧ ∀ base : Heap, (K w.params).In base → base.Ns mainGlobals mg → FnG l.prog w (K w.params) mg base CX0 k fa fd [x] (sp (K w.params)))
    (hsp : ∀ (K : PySem.W.Frag) (H : Hp) (a : Addr) (ns : List Int), ns.length ≤ n → Only H → SqL K H a (ns.map V.int) → sp K [.ref a] H (fun v _ => v = .bl true) fun _ _ _ => False) :
    PySem.W.WalkO q loose XP YP l.row.toRowW d [] (fun f vs => PySem.call f vs) := by
  refine Att.attach_call hn hdf fun w s₀ s₁ mg mb fa o pm cd doc a vs ns G Y ho hd hcd hmg hobj hints hlen hg => ?_
  obtain ⟨fd, hb, hF⟩ := FF w mg fa _ (hY w _ Y) G.T.g hmg
  exact law_callG (hY w _ Y) G.T.g G.T.b G.T.builtins G.T.nolimit hg hobj hints (Nat.le_trans hlen hn2) hr hF hb (fun H hO hS => hsp _ H a ns hlen hO hS)
end HX

set_option Elab.async false
set_option linter.all false
set_option maxRecDepth 100000
namespace HX
open PySem PySem.Spec PyProof.Rows L2
open Evl (Ex)

/-! ### a def of the module, called by its name -/
def Has (P : Program) (w : World) (K : PySem.W.Frag) (mg : Str → Option Value) (base : Heap) (k : Nat) (x : Str) (sp : Sp) : Prop :=
  ∃ (f : Addr) (fd : FuncData) (ps : List Str), FnOk P w K mg base CX0 k f fd ps sp ∧ mg x = some (.ref f) ∧ PySem.W.keepIn K (.ref f) = true ∧ Binds K fd ps []
def HasG (P : Program) (w : World) (K : PySem.W.Frag) (mg : Str → Option Value) (base : Heap) (k : Nat) (x : Str) (sp : Sp) : Prop :=
  ∃ (f : Addr) (fd : FuncData) (ps : List Str), FnG P w K mg base CX0 k f fd ps sp ∧ mg x = some (.ref f) ∧ PySem.W.keepIn K (.ref f) = true ∧ Binds K fd ps []
section
variable {X : Cx} {k n : Nat} {sp : Sp} {x : Str} {p pos : Pos} {e : Expr} {es : List Expr} {t : TA}
theorem pe_hs (h : Has X.prog X.w X.K X.mg X.base k x sp) (hr : Room n X.A) (hg : Gl X x) (ha : PA X (e :: es) t) (hkn : k ≤ n := by decide) (hdb : (x == ("__debug__" : Str)) = false := by decide)
    (he : starEach (e :: es) X.env = (false, eval e X.env) :: starEach es X.env := by rfl) (hpl : (backTo pos (starEach es X.env)).any (·.1) = false := by rfl) :
    PE X (.Call (.Name x p) (e :: es) [] pos) (tCall sp [] E0 t) := by
  obtain ⟨f, fd, ps, F, hm, hk, hb⟩ := h
  exact pe_call F (hr.mono hkn) hg hm hk hb .nil pass0 ha hdb he hpl
theorem pe_hsG (h : HasG X.prog X.w X.K X.mg X.base k x sp) (hgd : X.A.guards = some []) (hr : Room n X.A) (hg : Gl X x) (ha : PA X (e :: es) t) (hkn : k ≤ n := by decide) (hdb : (x == ("__debug__" : Str)) = false := by decide)
    (he : starEach (e :: es) X.env = (false, eval e X.env) :: starEach es X.env := by rfl) (hpl : (backTo pos (starEach es X.env)).any (·.1) = false := by rfl) :
    PE X (.Call (.Name x p) (e :: es) [] pos) (tCall sp [] E0 t) := by
  obtain ⟨f, fd, ps, F, hm, hk, hb⟩ := h
  exact pe_callG F hgd (hr.mono hkn) hg hm hk hb .nil pass0 ha hdb he hpl
end

/-! ### objects that turn (a jar, a list that grows), all else stands -/
def hid (S : List Addr) (H : Hp) : Hp := fun b => if b ∈ S then none else H b
theorem hid_ne {S : List Addr} {b : Addr} {H : Hp} (h : b ∉ S) : hid S H b = H b := if_neg h
theorem hid_upd {S : List Addr} {j : Addr} {H : Hp} {o : HO} (hj : j ∈ S) : hid S (upd H j o) = hid S H := by
  funext b
  unfold hid
  by_cases h : b ∈ S
  · rw [if_pos h, if_pos h]
  · rw [if_neg h, if_neg h, upd_ne (fun z => h (by rw [z]; exact hj))]
theorem hid_some {S : List Addr} {H : Hp} {b : Addr} {o : HO} (e : hid S H b = some o) : b ∉ S ∧ H b = some o := by
  unfold hid at e
  by_cases h : b ∈ S
  · rw [if_pos h] at e; cases e
  · rw [if_neg h] at e; exact ⟨h, e⟩
theorem hid_ex {S : List Addr} {H : Hp} : Ex (hid S H) H := fun b o e => (hid_some e).2
theorem hid_sub {S T : List Addr} {H : Hp} (h : ∀ b, b ∈ T → b ∈ S) : Ex (hid S H) (hid T H) := fun b o e => by
  obtain ⟨h1, h2⟩ := hid_some e
  rw [hid_ne fun z => h1 (h b z)]
  exact h2
theorem hid_free {S : List Addr} {p : Addr} {H : Hp} (h : H p = none) : hid S H p = none := by
  unfold hid
  split
  · rfl
  · exact h
/-- a step that may turn the objects of S and lays new ones -/
abbrev Jx (S : List Addr) (H H' : Hp) : Prop := Ex (hid S H) (hid S H')
theorem Jx.of {S : List Addr} {H H' : Hp} (e : Ex H H') : Jx S H H' := fun b o q => by
  obtain ⟨h1, h2⟩ := hid_some q
  rw [hid_ne h1]
  exact e b o h2
theorem Jx.upd {S : List Addr} {j : Addr} {H : Hp} {o : HO} (hj : j ∈ S) : Jx S H (upd H j o) := by
  show Ex (hid S H) (hid S (L2.upd H j o))
  rw [hid_upd hj]
  exact Ex.refl _
theorem Jx.refl {S : List Addr} (H : Hp) : Jx S H H := Ex.refl _
theorem Jx.tr {S : List Addr} {H H1 H2 : Hp} (a : Jx S H H1) (b : Jx S H1 H2) : Jx S H H2 := Ex.trans a b
theorem Jx.new {S : List Addr} {p : Addr} {H : Hp} {o : HO} (h : H p = none) : Jx S H (L2.upd H p o) := Jx.of (Ex.new h)
/-- hiding more -/
theorem Jx.more {S T : List Addr} {H H' : Hp} (e : Jx S H H') (h : ∀ b, b ∈ S → b ∈ T) : Jx T H H' := fun b o q => by
  obtain ⟨h1, h2⟩ := hid_some q
  have := e b o (by rw [hid_ne fun z => h1 (h b z)]; exact h2)
  rw [hid_ne h1]
  exact (hid_some this).2
/-- what was not there need not be hidden -/
theorem Jx.less {S : List Addr} {l : Addr} {H H' : Hp} (e : Jx (l :: S) H H') (h : H l = none) : Jx S H H' := fun b o q => by
  obtain ⟨h1, h2⟩ := hid_some q
  have hb : b ∉ l :: S := fun z => by
    rcases List.mem_cons.mp z with rfl | z
    · rw [h] at h2; cases h2
    · exact h1 z
  have := e b o (by rw [hid_ne hb]; exact h2)
  rw [hid_ne h1]
  exact (hid_some this).2
theorem Jx.get {S : List Addr} {p : Addr} {H H' : Hp} {o : HO} (e : Jx S H H') (h : H p = some o) (hp : p ∉ S) : H' p = some o :=
  (hid_some (e p o (by rw [hid_ne hp]; exact h))).2
theorem Jx.dq {S : List Addr} {H H' : Hp} {v : V} {d : PyData} (e : Jx S H H') (h : Dq (hid S H) v d) : Dq (hid S H') v d := h.ex e
theorem Jx.dqa {S : List Addr} {H H' : Hp} {v : List V} {d : List PyData} (e : Jx S H H') (h : DqAll (hid S H) v d) : DqAll (hid S H') v d := h.ex e
theorem fresh_ne {H : Hp} {p q : Addr} {o : HO} (h : H q = some o) (hp : H p = none) : p ≠ q := fun z => by rw [z, h] at hp; cases hp
theorem nin1 {p j : Addr} (h : p ≠ j) : p ∉ [j] := by simp [h]
theorem nin2 {p l j : Addr} (h1 : p ≠ l) (h2 : p ≠ j) : p ∉ [l, j] := by simp [h1, h2]

end HX

namespace HX
open PySem PySem.Spec PyProof.Rows L2
open Evl (Ex)
/-! ### pieces of readings, to be applied one by one -/
section
variable {K : PySem.W.Frag} {H : Hp} {Q : VK} {j : Addr} {xs : List V} {i : Int} {v : V} {σ : L2.St}
theorem go_ixL (hj : Rd H j (.lst xs)) (hi : atI xs i = some v) (q : Q v H) : rIxL K (.ref j) (.int i) H Q := ⟨j, xs, i, v, rfl, rfl, .inl hj, hi, q⟩
theorem go_ixT (hj : Rd H j (.tup xs)) (hi : atI xs i = some v) (q : Q v H) : rIxT K (.ref j) (.int i) H Q := ⟨j, xs, i, v, rfl, rfl, .inl hj, hi, q⟩
theorem go_ixL' (hj : SqL K H j xs) (hi : atI xs i = some v) (q : Q v H) : rIxL K (.ref j) (.int i) H Q := ⟨j, xs, i, v, rfl, rfl, hj, hi, q⟩
theorem go_ixT' (hj : SqT K H j xs) (hi : atI xs i = some v) (q : Q v H) : rIxT K (.ref j) (.int i) H Q := ⟨j, xs, i, v, rfl, rfl, hj, hi, q⟩
theorem go_setL {n : Nat} {q : Hp → Prop} (hj : H j = some (.lst xs)) (hi : ixN xs.length i = some n) (k : q (upd H j (.lst (xs.set n v)))) : rSetL (.ref j) (.int i) v H q := ⟨j, xs, i, n, rfl, rfl, hj, hi, k⟩
/-- a value is handed on, told by what holds of it -/
theorem cut_e {te : TE} (R : V → Hp → Prop) (h : ∀ Q' : VK, (∀ v H', R v H' → Q' v H') → te σ H Q') (k : ∀ v H', R v H' → Q v H') : te σ H Q := h Q k
/-- a statement, then the rest -/
theorem cut_s {t u : TS} {D : Ends} (M : L2.St → Hp → Prop) (h : ∀ D' : Ends, D'.rt = D.rt → D'.bk = D.bk → D'.ct = D.ct → (∀ σ' H', M σ' H' → D'.nx σ' H') → t D' σ H) (k : ∀ σ' H', M σ' H' → u D σ' H') : tSeq t u D σ H :=
  h { D with nx := u D } rfl rfl rfl k
end
end HX

set_option Elab.async false
set_option linter.all false
set_option maxRecDepth 100000
namespace HX
open PySem PySem.Spec PyProof.Rows L2
open Evl (Ex)
/-! ### the connectives of readings, opened one by one -/
section
variable {K : PySem.W.Frag} {H : Hp} {Q : VK} {QA : List V → Hp → Prop} {QT : Bool → Hp → Prop} {QS : L2.St → Hp → Prop} {v x y : V} {σ : L2.St} {ta tb te tc : TE} {t u : TT} {tr : TA} {D : Ends} {t1 t2 : TS} {g : TG} {i j : Nat} {r r' : R2} {a b : Int} {c : Bool}
theorem go_var (h : σ[i]? = some (some v)) (q : Q v H) : tVar i σ H Q := ⟨v, h, q⟩
theorem go_c (q : Q v H) : tC v σ H Q := q
theorem go_op (h : ta σ H fun x H1 => tb σ H1 fun y H2 => r x y H2 Q) : tOp r ta tb σ H Q := h
theorem go_un {r : V → Hp → VK → Prop} (h : ta σ H fun x H1 => r x H1 Q) : tUn r ta σ H Q := h
theorem go_if (h : t σ H fun c H1 => if c = true then ta σ H1 Q else tb σ H1 Q) : tIf t ta tb σ H Q := h
theorem go_test (h : te σ H fun x H' => ∃ k, x = .bl k ∧ QT k H') : tTest te σ H QT := h
theorem go_B (h : te σ H fun x H1 => ∃ c, x = .bl c ∧ QT c H1) : tB te σ H QT := h
theorem go_bl (q : QT c H) : ∃ k, V.bl c = V.bl k ∧ QT k H := ⟨c, rfl, q⟩
theorem go_not (h : t σ H fun c H1 => QT (!c) H1) : tNot t σ H QT := h
theorem go_and (h : t σ H fun c H1 => if c = true then u σ H1 QT else QT false H1) : tAnd t u σ H QT := h
theorem go_or (h : t σ H fun c H1 => if c = true then QT true H1 else u σ H1 QT) : tOr t u σ H QT := h
theorem go_andV (h : ta σ H fun x H1 => ∃ c, x = .bl c ∧ if c = true then tb σ H1 Q else Q (.bl false) H1) : tAndV ta tb σ H Q := h
theorem go_orV (h : ta σ H fun x H1 => ∃ c, x = .bl c ∧ if c = true then Q (.bl true) H1 else tb σ H1 Q) : tOrV ta tb σ H Q := h
theorem go_notV (h : ta σ H fun x H1 => ∃ c, x = .bl c ∧ Q (.bl (!c)) H1) : tNotV ta σ H Q := h
theorem go_chain (h : ta σ H fun x H1 => tb σ H1 fun y H2 => r x y H2 fun z H3 => ∃ k, z = .bl k ∧ (if k = true then tc σ H3 fun w' H4 => r' y w' H4 Q else Q (.bl false) H3)) : tChain r r' ta tb tc σ H Q := h
theorem go_nil (q : QA [] H) : tNil σ H QA := q
theorem go_cons (h : ta σ H fun x H1 => tr σ H1 fun xs H2 => QA (x :: xs) H2) : tCons ta tr σ H QA := h
theorem go_cb {rc : List V → Hp → VK → Prop} (h : tr σ H fun vs H1 => rc vs H1 Q) : tCB rc tr σ H Q := h
theorem go_call {sp : Sp} {dvs : List V} {E : XK} (h : tr σ H fun vs H1 => sp (vs ++ dvs) H1 Q E) : tCall sp dvs E tr σ H Q := h
theorem go_tup (h : tr σ H fun xs H1 => xs.length ≤ sizeLine ∧ ∀ p, H1 p = none → Q (.ref p) (upd H1 p (.tup xs))) : tTup tr σ H Q := h
theorem go_lst (h : tr σ H fun xs H1 => xs.length ≤ sizeLine ∧ ∀ p, H1 p = none → Q (.ref p) (upd H1 p (.lst xs))) : tLst tr σ H Q := h
theorem go_asg (h : te σ H fun x H1 => g x σ H1 D.nx) : tAsg te g D σ H := h
theorem go_name (h : QS (σ.set i (some v)) H) : gName i v σ H QS := h
theorem go_sub {to ti : TE} {ts : TSet} (h : to σ H fun o H1 => ti σ H1 fun i H2 => ts o i v H2 fun H3 => QS σ H3) : gSub to ti ts v σ H QS := h
theorem go_seq (h : t1 { D with nx := t2 D } σ H) : tSeq t1 t2 D σ H := h
theorem go_ret (h : te σ H D.rt) : tRet te D σ H := h
theorem go_retN (h : D.rt .non H) : tRetN D σ H := h
theorem go_drop (h : te σ H fun _ H1 => D.nx σ H1) : tDrop te D σ H := h
theorem go_next (h : D.nx σ H) : tNext D σ H := h
theorem go_brk (h : D.bk σ H) : tBreak D σ H := h
theorem go_cont (h : D.ct σ H) : tCont D σ H := h
theorem go_ifS (h : t σ H fun b H1 => if b = true then t1 D σ H1 else t2 D σ H1) : tIfS t t1 t2 D σ H := h
theorem go_par (h : tr σ H fun vs H1 => ∃ v w, vs = [v, w] ∧ D.nx ((σ.set i (some v)).set j (some w)) H1) : tPar i j tr D σ H := h
theorem go_par2 {P : V → V → Prop} (h : P x y) : ∃ v w, [x, y] = [v, w] ∧ P v w := ⟨x, y, rfl, h⟩
theorem go_bm {T : String} {rb : V → List V → Hp → VK → Prop} (h : ta σ H fun x H1 => tyV K T x H1 ∧ tr σ H1 fun xs H2 => rb x xs H2 Q) : tBM K T rb ta tr σ H Q := h
theorem go_I0 {f : Int → Int → V} (q : Q (f a b) H) : rI0 f (.int a) (.int b) H Q := ⟨a, b, rfl, rfl, q⟩
theorem go_I {C : Int → Int → Prop} {f : Int → Int → V} (hc : C a b) (q : Q (f a b) H) : rI C f (.int a) (.int b) H Q := ⟨a, b, rfl, rfl, hc, q⟩
theorem go_U {f : Int → V} (q : Q (f a) H) : rU f (.int a) H Q := ⟨a, rfl, q⟩
theorem go_eq (h : scal x y = true) (q : Q (.bl (decide (x = y))) H) : rEq x y H Q := ⟨h, q⟩
theorem go_ne (h : scal x y = true) (q : Q (.bl (!decide (x = y))) H) : rNe x y H Q := ⟨h, q⟩
theorem go_isN (q : Q (.bl (decide (x = .non))) H) : rIsN x .non H Q := ⟨rfl, q⟩
theorem go_notN (q : Q (.bl (!decide (x = .non))) H) : rNotN x .non H Q := ⟨rfl, q⟩
theorem go_app {l : Addr} {xs : List V} (h : H l = some (.lst xs)) (hz : xs.length < sizeLine) (q : Q .non (upd H l (.lst (xs ++ [y])))) : rAppend (.ref l) [y] H Q := ⟨l, xs, y, rfl, rfl, h, hz, q⟩
theorem go_tyL {l : Addr} {xs : List V} (h : H l = some (.lst xs)) {P : Prop} (q : P) : tyV K "list" (.ref l) H ∧ P := ⟨.inl ⟨rfl, _, SqL.of h⟩, q⟩
theorem go_cat {l m : Addr} {xs zs : List V} (h1 : H l = some (.lst xs)) (h2 : H m = some (.lst zs)) (hz : xs.length + zs.length ≤ sizeLine) (q : ∀ p, H p = none → Q (.ref p) (upd H p (.lst (xs ++ zs)))) : rCat (.ref l) (.ref m) H Q :=
  ⟨l, m, xs, zs, rfl, rfl, h1, h2, hz, q⟩
theorem go_rep {l : Addr} {xs : List V} {k : Int} (h1 : H l = some (.lst xs)) (h2 : -(2 ^ 63) ≤ k ∧ k < 2 ^ 63) (hz : xs.length * k.toNat ≤ sizeLine) (q : ∀ p, H p = none → Q (.ref p) (upd H p (.lst (List.replicate k.toNat xs).flatten))) : rRep (.ref l) (.int k) H Q :=
  ⟨l, k, xs, rfl, rfl, h1, h2.1, h2.2, hz, q⟩
end
/-! ### built-ins by name -/
def rLenQ (K : PySem.W.Frag) : List V → Hp → VK → Prop := fun xs H Q => ∃ p ys, xs = [.ref p] ∧ (SqL K H p ys ∨ SqT K H p ys) ∧ Q (.int ys.length) H
def rAbsQ : List V → Hp → VK → Prop := fun xs H Q => ∃ i, xs = [.int i] ∧ Q (.int (if i < 0 then -i else i)) H
def rMaxQ : List V → Hp → VK → Prop := fun xs H Q => ∃ i j, xs = [.int i, .int j] ∧ Q (.int (if j > i then j else i)) H
def rMinQ : List V → Hp → VK → Prop := fun xs H Q => ∃ i j, xs = [.int i, .int j] ∧ Q (.int (if j < i then j else i)) H
def rIntQ : List V → Hp → VK → Prop := fun xs H Q => (∃ i, xs = [.int i] ∧ Q (.int i) H) ∨ ∃ k, xs = [.bl k] ∧ Q (.int (if k then 1 else 0)) H
section
variable {X : Cx}
theorem call_lenQ : CallR X (.builtin "len") (rLenQ X.K) := call_len_seq
theorem call_absQ : CallR X (.builtin "abs") rAbsQ := call_abs
theorem call_maxQ (hc : X.calm = true) : CallR X (.builtin "max") rMaxQ := call_max2 hc
theorem call_minQ (hc : X.calm = true) : CallR X (.builtin "min") rMinQ := call_min2 hc
theorem call_intQ : CallR X (.type "int") rIntQ := call_int1
end
section
variable {K : PySem.W.Frag} {H : Hp} {Q : VK} {p : Addr} {ys : List V} {i j : Int} {b : Bool}
theorem go_lenL (h : Rd H p (.lst ys)) (k : Q (.int ys.length) H) : rLenQ K [.ref p] H Q := ⟨p, ys, rfl, .inl (.inl h), k⟩
theorem go_lenT (h : Rd H p (.tup ys)) (k : Q (.int ys.length) H) : rLenQ K [.ref p] H Q := ⟨p, ys, rfl, .inr (.inl h), k⟩
theorem go_lenS (h : SqL K H p ys) (k : Q (.int ys.length) H) : rLenQ K [.ref p] H Q := ⟨p, ys, rfl, .inl h, k⟩
theorem go_abs (k : Q (.int (if i < 0 then -i else i)) H) : rAbsQ [.int i] H Q := ⟨i, rfl, k⟩
theorem go_max (k : Q (.int (if j > i then j else i)) H) : rMaxQ [.int i, .int j] H Q := ⟨i, j, rfl, k⟩
theorem go_min (k : Q (.int (if j < i then j else i)) H) : rMinQ [.int i, .int j] H Q := ⟨i, j, rfl, k⟩
theorem go_int (k : Q (.int i) H) : rIntQ [.int i] H Q := .inl ⟨i, rfl, k⟩
theorem go_intB (k : Q (.int (if b then 1 else 0)) H) : rIntQ [.bl b] H Q := .inr ⟨b, rfl, k⟩
end
/-- a slot is read -/
theorem wide1 {b : Int} (h0 : 0 < b) (h : b < 2 ^ 400) {a : Int} : CDivW a b := wide_div (b := 400) h0 (by omega) (by decide) (by decide)
end HX
namespace HX
open PySem L2
theorem go_new {n : Nat} {R : Prop} (h : n ≤ sizeLine) (k : R) : n ≤ sizeLine ∧ R := ⟨h, k⟩
end HX
namespace HX
open PySem PySem.Spec PyProof.Rows L2
open Evl (Ex)
/-! ### loops -/
section
variable {K : PySem.W.Frag} {H : Hp} {Q : VK} {σ : L2.St} {ta : TA} {tl te : TE} {tt : TT} {D : Ends} {tb : TS} {g : TG} {lo : Int} {n : Nat} {a : Addr} {xs : List V} {vs : List Nat}
def forR (lo : Int) (n : Nat) (g : TG) (tb : TS) : TS := tFor (fun _ H R => R (Itr lo n) H) g tb
def forL (K : PySem.W.Frag) (a : Addr) (g : TG) (tb : TS) : TS := tFor (fun _ H R => R (Itl K a) H) g tb
def forT (K : PySem.W.Frag) (a : Addr) (g : TG) (tb : TS) : TS := tFor (fun _ H R => R (Itt K a) H) g tb
def forE (K : PySem.W.Frag) (a : Addr) (g : TG) (tb : TS) : TS := tFor (fun _ H R => R (Ite K a) H) g tb
theorem go_forR1 (h : ta σ H fun vs H1 => ∃ j : Int, vs = [.int j] ∧ -(2 ^ 62) ≤ j ∧ j < 2 ^ 62 ∧ forR 0 j.toNat g tb D σ H1) : tFor (iRng1 ta) g tb D σ H := h
theorem go_forR2 (h : ta σ H fun vs H1 => ∃ i j : Int, vs = [.int i, .int j] ∧ (-(2 ^ 62) ≤ i ∧ i < 2 ^ 62 ∧ -(2 ^ 62) ≤ j ∧ j < 2 ^ 62) ∧ forR i (j - i).toNat g tb D σ H1) : tFor (iRng2 ta) g tb D σ H := h
theorem go_forL (h : tl σ H fun x H1 => ∃ a, x = .ref a ∧ (∃ xs, SqL K H1 a xs) ∧ forL K a g tb D σ H1) : tFor (iList K tl) g tb D σ H := h
theorem go_forT (h : tl σ H fun x H1 => ∃ a, x = .ref a ∧ (∃ xs, SqT K H1 a xs) ∧ forT K a g tb D σ H1) : tFor (iTup K tl) g tb D σ H := h
theorem go_forE (h : ta σ H fun vs H1 => ∃ a xs, vs = [.ref a] ∧ SqL K H1 a xs ∧ forE K a g tb D σ H1) : tFor (iEnum K ta) g tb D σ H := h
theorem run_forR (Pv : Nat → L2.St → Hp → Prop) (h0 : Pv 0 σ H)
    (hs : ∀ i σ H, i < n → Pv i σ H → g (.int (lo + i)) σ H fun σ2 H2 => tb { D with nx := Pv (i + 1), ct := Pv (i + 1), bk := D.nx } σ2 H2) (hd : ∀ σ H, Pv n σ H → D.nx σ H) : forR lo n g tb D σ H := for_range Pv h0 hs hd
theorem run_forL (xs : List V) (Pv : Nat → L2.St → Hp → Prop) (h0 : Pv 0 σ H) (hl : ∀ i σ H, i ≤ xs.length → Pv i σ H → SqL K H a xs)
    (hs : ∀ i x σ H, xs[i]? = some x → Pv i σ H → g x σ H fun σ2 H2 => tb { D with nx := Pv (i + 1), ct := Pv (i + 1), bk := D.nx } σ2 H2) (hd : ∀ σ H, Pv xs.length σ H → D.nx σ H) : forL K a g tb D σ H := for_list Pv h0 hl hs hd
theorem run_forT (xs : List V) (Pv : Nat → L2.St → Hp → Prop) (h0 : Pv 0 σ H) (hl : ∀ i σ H, i ≤ xs.length → Pv i σ H → SqT K H a xs)
    (hs : ∀ i x σ H, xs[i]? = some x → Pv i σ H → g x σ H fun σ2 H2 => tb { D with nx := Pv (i + 1), ct := Pv (i + 1), bk := D.nx } σ2 H2) (hd : ∀ σ H, Pv xs.length σ H → D.nx σ H) : forT K a g tb D σ H := for_tup Pv h0 hl hs hd
/-- comprehensions -/
def lcR (lo : Int) (n : Nat) (g : TG) (tt : TT) (te : TE) (vs : List Nat) : TE := tLc (fun _ H R => R (Itr lo n) H) g tt te vs
def lcL (K : PySem.W.Frag) (a : Addr) (g : TG) (tt : TT) (te : TE) (vs : List Nat) : TE := tLc (fun _ H R => R (Itl K a) H) g tt te vs
def lcT (K : PySem.W.Frag) (a : Addr) (g : TG) (tt : TT) (te : TE) (vs : List Nat) : TE := tLc (fun _ H R => R (Itt K a) H) g tt te vs
theorem go_lcR1 (h : ta σ H fun us H1 => ∃ j : Int, us = [.int j] ∧ -(2 ^ 62) ≤ j ∧ j < 2 ^ 62 ∧ lcR 0 j.toNat g tt te vs σ H1 Q) : tLc (iRng1 ta) g tt te vs σ H Q := h
theorem go_lcL (h : tl σ H fun x H1 => ∃ a, x = .ref a ∧ (∃ xs, SqL K H1 a xs) ∧ lcL K a g tt te vs σ H1 Q) : tLc (iList K tl) g tt te vs σ H Q := h
theorem go_lcT (h : tl σ H fun x H1 => ∃ a, x = .ref a ∧ (∃ xs, SqT K H1 a xs) ∧ lcT K a g tt te vs σ H1 Q) : tLc (iTup K tl) g tt te vs σ H Q := h
/-- acc at D so far: Pv i acc H; what a turn appends -/
theorem run_lcR (Pv : Addr → Nat → Hp → Prop) (h0 : ∀ D, H D = none → Pv D 0 (upd H D (.lst [])))
    (hs : ∀ D i H, i < n → Pv D i H → g (.int (lo + i)) (wipe σ vs) H fun σ2 H2 => wipe σ2 vs = wipe σ vs ∧ tt σ2 H2 fun b H3 =>
      if b = true then te σ2 H3 fun y H4 => ∃ acc, H4 D = some (.lst acc) ∧ acc.length < sizeLine ∧ Pv D (i + 1) (upd H4 D (.lst (acc ++ [y]))) else Pv D (i + 1) H3) (hd : ∀ D H', H D = none → Pv D n H' → Q (.ref D) H') : lcR lo n g tt te vs σ H Q :=
  fun D hD => lc_range (Pv D) (h0 D hD) (hs D) fun H' p => hd D H' hD p
theorem run_lcL (xs : List V) (Pv : Addr → Nat → Hp → Prop) (h0 : ∀ D, H D = none → Pv D 0 (upd H D (.lst []))) (hl : ∀ D i H, i ≤ xs.length → Pv D i H → SqL K H a xs)
    (hs : ∀ D i x H, xs[i]? = some x → Pv D i H → g x (wipe σ vs) H fun σ2 H2 => wipe σ2 vs = wipe σ vs ∧ tt σ2 H2 fun b H3 =>
      if b = true then te σ2 H3 fun y H4 => ∃ acc, H4 D = some (.lst acc) ∧ acc.length < sizeLine ∧ Pv D (i + 1) (upd H4 D (.lst (acc ++ [y]))) else Pv D (i + 1) H3) (hd : ∀ D H', H D = none → Pv D xs.length H' → Q (.ref D) H') : lcL K a g tt te vs σ H Q :=
  fun D hD => lc_list (Pv D) (h0 D hD) (hl D) (hs D) fun H' p => hd D H' hD p
theorem run_lcT (xs : List V) (Pv : Addr → Nat → Hp → Prop) (h0 : ∀ D, H D = none → Pv D 0 (upd H D (.lst []))) (hl : ∀ D i H, i ≤ xs.length → Pv D i H → SqT K H a xs)
    (hs : ∀ D i x H, xs[i]? = some x → Pv D i H → g x (wipe σ vs) H fun σ2 H2 => wipe σ2 vs = wipe σ vs ∧ tt σ2 H2 fun b H3 =>
      if b = true then te σ2 H3 fun y H4 => ∃ acc, H4 D = some (.lst acc) ∧ acc.length < sizeLine ∧ Pv D (i + 1) (upd H4 D (.lst (acc ++ [y]))) else Pv D (i + 1) H3) (hd : ∀ D H', H D = none → Pv D xs.length H' → Q (.ref D) H') : lcT K a g tt te vs σ H Q :=
  fun D hD => lc_tup (Pv D) (h0 D hD) (hl D) (hs D) fun H' p => hd D H' hD p
end
end HX
namespace HX
open PySem PySem.Spec PyProof.Rows L2
theorem cut_t {tt : TT} {σ : L2.St} {H : Hp} {Q : Bool → Hp → Prop} (R : Bool → Hp → Prop) (h : ∀ Q' : Bool → Hp → Prop, (∀ b H', R b H' → Q' b H') → tt σ H Q') (k : ∀ b H', R b H' → Q b H') : tt σ H Q := h Q k
theorem go_neD {K : PySem.W.Frag} {H : Hp} {Q : VK} {x y : V} {d e : PyData} (h1 : Dq H x d) (h2 : Dq H y e) (s1 : SeqAt.shaped d = true) (s2 : SeqAt.shaped e = true) (q : Q (.bl (!PyData.eqv d e)) H) : rNeD K x y H Q :=
  ⟨d, e, h1.dp (PyData.hasDict_of_canLay d (SeqAt.canLay_of_shaped s1)), h2.dp (PyData.hasDict_of_canLay e (SeqAt.canLay_of_shaped s2)), s1, s2, q⟩
theorem go_eqD {K : PySem.W.Frag} {H : Hp} {Q : VK} {x y : V} {d e : PyData} (h1 : Dq H x d) (h2 : Dq H y e) (s1 : SeqAt.shaped d = true) (s2 : SeqAt.shaped e = true) (q : Q (.bl (PyData.eqv d e)) H) : rEqD K x y H Q :=
  ⟨d, e, h1.dp (PyData.hasDict_of_canLay d (SeqAt.canLay_of_shaped s1)), h2.dp (PyData.hasDict_of_canLay e (SeqAt.canLay_of_shaped s2)), s1, s2, q⟩
end HX
namespace HX
open PySem PySem.Spec PyProof.Rows L2
section
variable {K : PySem.W.Frag} {H : Hp} {Q : VK} {σ : L2.St} {te : TE} {tl th : TO} {QO : Option Int → Hp → Prop} {a : Addr} {xs : List V} {i : Int} {lo hi : Option Int}
theorem go_sl {r : V → Option Int → Option Int → Hp → VK → Prop} (h : te σ H fun x H1 => tl σ H1 fun l H2 => th σ H2 fun u H3 => r x l u H3 Q) : tSl r te tl th σ H Q := h
theorem go_part (h : te σ H fun x H1 => ∃ i, x = .int i ∧ QO (some i) H1) : tPart te σ H QO := h
theorem go_pint {Q : Int → Prop} (h : Q i) : ∃ j, V.int i = V.int j ∧ Q j := ⟨i, rfl, h⟩
theorem go_nopart (h : QO none H) : tNoPart σ H QO := h
theorem go_slT (h : Rd H a (.tup xs)) (hn : ¬ (HT.sIx xs.length 0 lo = 0 ∧ HT.sIx xs.length xs.length hi = xs.length)) (k : ∀ p, H p = none → Q (.ref p) (upd H p (.tup (cutV xs lo hi)))) : rSlT K (.ref a) lo hi H Q := ⟨a, xs, rfl, .inl h, hn, k⟩
theorem go_slL (h : Rd H a (.lst xs)) (k : ∀ p, H p = none → Q (.ref p) (upd H p (.lst (cutV xs lo hi)))) : rSlL K (.ref a) lo hi H Q := ⟨a, xs, rfl, .inl h, k⟩
theorem cut_tail (x : V) (l : List V) : cutV (x :: l) (some 1) none = l ∧ ¬ (HT.sIx (x :: l).length 0 (some 1) = 0 ∧ HT.sIx (x :: l).length (x :: l).length none = (x :: l).length) := by
  have e1 : HT.sIx (x :: l).length 0 (some 1) = 1 := by
    simp [HT.sIx]
  have e2 : HT.sIx (x :: l).length (x :: l).length none = l.length + 1 := by
    simp [HT.sIx]
  refine ⟨?_, by rw [e1]; simp⟩
  unfold cutV
  rw [e1, e2]
  simp
end
end HX
namespace HX
open PySem PySem.Spec PyProof.Rows L2
theorem run_forE {K : PySem.W.Frag} {a : Addr} {g : TG} {tb : TS} {D : Ends} {σ : L2.St} {H : Hp} (xs : List V) (Pv : Nat → L2.St → Hp → Prop) (h0 : Pv 0 σ H) (hl : ∀ i σ H, i ≤ xs.length → Pv i σ H → SqL K H a xs)
    (hs : ∀ i x σ H T, xs[i]? = some x → Pv i σ H → H T = none → g (.ref T) σ (upd H T (.tup [.int (i : Nat), x])) fun σ2 H2 => tb { D with nx := Pv (i + 1), ct := Pv (i + 1), bk := D.nx } σ2 H2)
    (hd : ∀ σ H, Pv xs.length σ H → D.nx σ H) : forE K a g tb D σ H := by
  refine ⟨fun i m σ H => m = xs.length - i ∧ i ≤ xs.length ∧ Pv i σ H, ⟨xs.length, by simp, Nat.zero_le _, h0⟩, ?_⟩
  rintro i m σ H ⟨rfl, hi, p⟩
  have q := hl i σ H hi p
  rcases Nat.lt_or_ge i xs.length with hlt | hge
  · refine .inr ⟨⟨xs, xs[i], q, by simp [hlt]⟩, Pv (i + 1), fun σ' H' p' => ⟨xs.length - (i + 1), by omega, rfl, hlt, p'⟩, ?_⟩
    rintro v H' ⟨T, x, rfl, hT, rfl, y⟩
    exact hs i x σ H T (y xs q) p hT
  · obtain rfl : i = xs.length := by omega
    exact .inl ⟨⟨xs, q, Nat.le_refl _⟩, hd σ H p⟩
end HX

set_option Elab.async false
set_option linter.all false
set_option maxRecDepth 100000
namespace HX
open PySem PySem.Spec PyProof.Rows L2
open Evl (Ex)
/-! ### isinstance of data -/
def tyNm : PyData → String
  | .none => "NoneType"
  | .bool _ => "bool"
  | .int _ => "int"
  | .str _ => "str"
  | .list _ => "list"
  | .tuple _ => "tuple"
  | .dict _ => "dict"
theorem Dq.ty {K : PySem.W.Frag} {H : Hp} {x : V} {d : PyData} (h : Dq H x d) : TyX K H x (.type (tyNm d)) := by
  cases h with
  | non => exact .base .non
  | bl b => exact .base (.bl b)
  | int i => exact .base (.int i)
  | str y => exact .base (.str y)
  | lst h k => rcases h with h | ⟨o, h⟩
               · exact .base (.lst h)
               · exact .base (.frz h)
  | tup h k => rcases h with h | ⟨o, h⟩
               · exact .base (.tup h)
               · exact .fTuple h
  | dic h => exact .base (.dK h)
theorem go_isi {K : PySem.W.Frag} {H : Hp} {x : V} {d : PyData} {T : String} {b : Bool} {Q : VK} (h : Dq H x d) (e : kitB (tyNm d) T = some b) (q : Q (.bl b) H) : rIsi K [x, .ty T] H Q :=
  ⟨x, .ty T, _, _, b, rfl, .ty T, h.ty, kit_ty e, q⟩
def pInt : PyData → Bool
  | .int _ => true
  | .bool _ => true
  | _ => false
theorem kit_int (d : PyData) : kitB (tyNm d) "int" = some (pInt d) := by
  cases d with
  | none => exact (by decide +kernel : kitB "NoneType" "int" = some false)
  | bool _ => exact (by decide +kernel : kitB "bool" "int" = some true)
  | int _ => exact (by decide +kernel : kitB "int" "int" = some true)
  | str _ => exact (by decide +kernel : kitB "str" "int" = some false)
  | list _ => exact (by decide +kernel : kitB "list" "int" = some false)
  | tuple _ => exact (by decide +kernel : kitB "tuple" "int" = some false)
  | dict _ => exact (by decide +kernel : kitB "dict" "int" = some false)
def pBool : PyData → Bool
  | .bool _ => true
  | _ => false
theorem kit_bool (d : PyData) : kitB (tyNm d) "bool" = some (pBool d) := by
  cases d with
  | none => exact (by decide +kernel : kitB "NoneType" "bool" = some false)
  | bool _ => exact (by decide +kernel : kitB "bool" "bool" = some true)
  | int _ => exact (by decide +kernel : kitB "int" "bool" = some false)
  | str _ => exact (by decide +kernel : kitB "str" "bool" = some false)
  | list _ => exact (by decide +kernel : kitB "list" "bool" = some false)
  | tuple _ => exact (by decide +kernel : kitB "tuple" "bool" = some false)
  | dict _ => exact (by decide +kernel : kitB "dict" "bool" = some false)
def pStr : PyData → Bool
  | .str _ => true
  | _ => false
theorem kit_str (d : PyData) : kitB (tyNm d) "str" = some (pStr d) := by
  cases d with
  | none => exact (by decide +kernel : kitB "NoneType" "str" = some false)
  | bool _ => exact (by decide +kernel : kitB "bool" "str" = some false)
  | int _ => exact (by decide +kernel : kitB "int" "str" = some false)
  | str _ => exact (by decide +kernel : kitB "str" "str" = some true)
  | list _ => exact (by decide +kernel : kitB "list" "str" = some false)
  | tuple _ => exact (by decide +kernel : kitB "tuple" "str" = some false)
  | dict _ => exact (by decide +kernel : kitB "dict" "str" = some false)
def pList : PyData → Bool
  | .list _ => true
  | _ => false
theorem kit_list (d : PyData) : kitB (tyNm d) "list" = some (pList d) := by
  cases d with
  | none => exact (by decide +kernel : kitB "NoneType" "list" = some false)
  | bool _ => exact (by decide +kernel : kitB "bool" "list" = some false)
  | int _ => exact (by decide +kernel : kitB "int" "list" = some false)
  | str _ => exact (by decide +kernel : kitB "str" "list" = some false)
  | list _ => exact (by decide +kernel : kitB "list" "list" = some true)
  | tuple _ => exact (by decide +kernel : kitB "tuple" "list" = some false)
  | dict _ => exact (by decide +kernel : kitB "dict" "list" = some false)
def pTuple : PyData → Bool
  | .tuple _ => true
  | _ => false
theorem kit_tuple (d : PyData) : kitB (tyNm d) "tuple" = some (pTuple d) := by
  cases d with
  | none => exact (by decide +kernel : kitB "NoneType" "tuple" = some false)
  | bool _ => exact (by decide +kernel : kitB "bool" "tuple" = some false)
  | int _ => exact (by decide +kernel : kitB "int" "tuple" = some false)
  | str _ => exact (by decide +kernel : kitB "str" "tuple" = some false)
  | list _ => exact (by decide +kernel : kitB "list" "tuple" = some false)
  | tuple _ => exact (by decide +kernel : kitB "tuple" "tuple" = some true)
  | dict _ => exact (by decide +kernel : kitB "dict" "tuple" = some false)
theorem tuple_or (d : PyData) : (∃ ds, d = .tuple ds) ∨ pTuple d = false := by
  cases d with
  | tuple ds => exact .inl ⟨_, rfl⟩
  | _ => exact .inr rfl
theorem str_or (d : PyData) : (∃ x, d = .str x) ∨ pStr d = false := by
  cases d with
  | str ds => exact .inl ⟨_, rfl⟩
  | _ => exact .inr rfl
theorem list_or (d : PyData) : (∃ x, d = .list x) ∨ pList d = false := by
  cases d with
  | list ds => exact .inl ⟨_, rfl⟩
  | _ => exact .inr rfl
/-! ### a tuple unpacked -/
section
variable {K : PySem.W.Frag} {H : Hp} {σ : L2.St} {Q : L2.St → Hp → Prop} {a : Addr} {xs : List V} {n : Nat} {t : TGs} {g : TG} {v : V}
theorem go_gtup (h : SqT K H a xs) (hl : xs.length = n) (k : t xs σ H Q) : gTup K n t (.ref a) σ H Q := ⟨a, xs, rfl, h, hl, k⟩
theorem go_gcons (k : g v σ H fun σ' H' => t xs σ' H' Q) : gCons g t (v :: xs) σ H Q := ⟨v, xs, rfl, k⟩
theorem go_gnil (k : Q σ H) : gNil [] σ H Q := ⟨rfl, k⟩
end
theorem Dq.tupleAt {H : Hp} {x : V} {ds : List PyData} (h : Dq H x (.tuple ds)) : ∃ a xs, x = .ref a ∧ Rd H a (.tup xs) ∧ DqAll H xs ds := by
  cases h with
  | tup h1 h2 => exact ⟨_, _, rfl, h1, h2⟩
theorem Dq.listAt {H : Hp} {x : V} {ds : List PyData} (h : Dq H x (.list ds)) : ∃ a xs, x = .ref a ∧ Rd H a (.lst xs) ∧ DqAll H xs ds := by
  cases h with
  | lst h1 h2 => exact ⟨_, _, rfl, h1, h2⟩
/-! ### a def called by keywords alone -/
def HasK (P : Program) (w : World) (K : PySem.W.Frag) (mg : Str → Option Value) (base : Heap) (k : Nat) (x : Str) (ks : List Str) (g : List Value → List Value) (gV : List V → List V) (sp : Sp) : Prop :=
  ∃ (f : Addr) (fd : FuncData) (ps : List Str), FnOk P w K mg base CX0 k f fd ps sp ∧ mg x = some (.ref f) ∧ PySem.W.keepIn K (.ref f) = true ∧ KBn K fd ps 0 ks (fun _ ws => g ws) (fun _ zs => gV zs)
def tKw (n : Nat) (sp : Sp) (gV : List V → List V) (tk : TA) : TE := fun σ H Q => tk σ H fun zs H2 => zs.length = n ∧ sp (gV zs) H2 Q E0
section
variable {X : Cx} {k n : Nat} {sp : Sp} {x : Str} {p pos : Pos} {kws : List Keyword} {tk : TA} {ks : List Str} {g : List Value → List Value} {gV : List V → List V}
theorem pe_kw (h : HasK X.prog X.w X.K X.mg X.base k x ks g gV sp) (hr : Room n X.A) (hg : Gl X x) (hkw : PK X kws tk) (hkn : k ≤ n := by decide)
    (hall : (backToKw pos (keywordEach kws X.env)).all (·.1.isSome) = true := by rfl) (hks : (backToKw pos (keywordEach kws X.env)).filterMap (·.1) = ks := by rfl) (hdb : (x == ("__debug__" : Str)) = false := by decide)
    (hpl : ((backTo pos (starEach [] X.env)).any (·.1) || (backToKw pos (keywordEach kws X.env)).any (·.1.isNone)) = false := by rfl) :
    PE X (.Call (.Name x p) [] kws pos) (tKw ks.length sp gV tk) := by
  obtain ⟨f, fd, ps, F, hm, hk, hb⟩ := h
  refine ⟨fun pins s σ H Q I h => ?_⟩
  refine wpAny_Call_Name_kw (ld_glob I hg hm ?_ hdb)
  refine PySem.W.callWith_KW0 (h₀ := X.base) I.ok.mod.kin hk hall ?_ hpl
  refine thn (hkw.run pos pins s σ H _ I h) fun ws s2 ⟨zs, H2, I2, rz, l2, q2⟩ => ⟨I2.kIn, ?_⟩
  rw [hks]
  exact run_fnN (us := []) (vs := []) (n := 0) F (hr.mono hkn) hb pass0 I2 .nil rz rfl l2 q2
theorem go_kw {σ : L2.St} {H : Hp} {Q : VK} (h : tk σ H fun zs H2 => zs.length = n ∧ sp (gV zs) H2 Q E0) : tKw n sp gV tk σ H Q := h
end
end HX

set_option Elab.async false
set_option linter.all false
set_option maxRecDepth 100000
namespace HX
open PySem PySem.Spec PyProof.Rows L2
open Evl (Ex)
/-! ### data of moderate size -/
structure Fine (w k : Nat) (d : PyData) : Prop where
  sh : d.showable = true
  lv : d.leavesShort 200 = true
  wt : d.weight ≤ w
  dp : d.depth ≤ k
theorem Fine.mono {w w' k k' : Nat} {d : PyData} (h : Fine w k d) (hw : w ≤ w') (hk : k ≤ k') : Fine w' k' d := ⟨h.sh, h.lv, Nat.le_trans h.wt hw, Nat.le_trans h.dp hk⟩
theorem Fine.none : Fine 0 0 .none := ⟨rfl, rfl, Nat.le_refl _, Nat.le_refl _⟩
theorem Fine.bool (b : Bool) : Fine 0 0 (.bool b) := ⟨rfl, rfl, Nat.le_refl _, Nat.le_refl _⟩
theorem Fine.int {i : Int} (h : i.natAbs < 2 ^ 600) : Fine 600 0 (.int i) := by
  have hl : i.natAbs.log2 < 600 := PySem.Flt.log2_lt_of (by decide) h
  have ht : (toString i).length ≤ 200 := Nat.le_trans (int_text_length_le10 (k := 182) (by decide) (Nat.lt_of_lt_of_le h (by decide +kernel))) (by decide)
  refine ⟨by simp [PyData.showable]; omega, ?_, ?_, Nat.le_refl _⟩
  · simp only [PyData.leavesShort, PyData.shown]
    refine decide_eq_true ?_
    show (Str.ofString (toString i)).length ≤ 200
    rw [PySem.ofString_length]
    exact ht
  · simp only [PyData.weight]
    split <;> omega
theorem Fine.str {x : Str} {n : Nat} (h : (PyData.str x).leavesShort 200 = true) (hn : x.cps.size ≤ n) : Fine n 0 (.str x) := ⟨rfl, h, hn, Nat.le_refl _⟩
theorem fine_all {w k : Nat} : ∀ {l : List PyData}, (∀ x ∈ l, Fine w k x) → PyData.showableAll l = true ∧ PyData.leavesShortAll 200 l = true ∧ PyData.weightAll l ≤ l.length * (w + 1) ∧ PyData.depthAll l ≤ k
  | [], _ => ⟨rfl, rfl, by simp [PyData.weightAll], by simp [PyData.depthAll]⟩
  | x :: l, h => by
    obtain ⟨h1, h2, h3, h4⟩ := fine_all fun y hy => h y (List.mem_cons_of_mem _ hy)
    have hx := h x List.mem_cons_self
    refine ⟨by simp [PyData.showableAll, hx.sh, h1], by simp [PyData.leavesShortAll, hx.lv, h2], ?_, ?_⟩
    · simp only [PyData.weightAll, List.length_cons]
      have := hx.wt
      rw [Nat.add_mul]
      omega
    · simp only [PyData.depthAll]
      have := hx.dp
      omega
theorem Fine.list {w k : Nat} {l : List PyData} (h : ∀ x ∈ l, Fine w k x) : Fine (l.length * (w + 1)) (k + 1) (.list l) := by
  obtain ⟨h1, h2, h3, h4⟩ := fine_all h
  exact ⟨by simpa [PyData.showable] using h1, by simpa [PyData.leavesShort] using h2, by simpa [PyData.weight] using h3, by simpa [PyData.depth] using h4⟩
theorem Fine.tuple {w k : Nat} {l : List PyData} (h : ∀ x ∈ l, Fine w k x) : Fine (l.length * (w + 1)) (k + 1) (.tuple l) := by
  obtain ⟨h1, h2, h3, h4⟩ := fine_all h
  exact ⟨by simpa [PyData.showable] using h1, by simpa [PyData.leavesShort] using h2, by simpa [PyData.weight] using h3, by simpa [PyData.depth] using h4⟩
theorem Fine.dict : Fine 0 1 (.dict []) := ⟨rfl, rfl, by simp [PyData.weight, PyData.weightKv], by simp [PyData.depth, PyData.depthKv]⟩
theorem Fine.shw {w k : Nat} {d : PyData} (h : Fine w k d) (hw : w ≤ 80000) (hk : k ≤ 60) : Shw d := by
  refine ⟨h.sh, ?_, Nat.le_trans h.dp hk⟩
  have := PyData.shown_le 200 (by decide) d h.lv
  have e : sizeLine = 16777216 := sizeLine_eq
  have hw' := Nat.le_trans h.wt hw
  omega
theorem two {l : List PyData} {a b : PyData} {R : PyData → Prop} (ha : R a) (hb : R b) : ∀ x ∈ [a, b], R x := by
  intro x hx
  rcases List.mem_cons.mp hx with rfl | hx
  · exact ha
  · rw [List.mem_singleton.mp hx]; exact hb
theorem go_repr {H : Hp} {Q : VK} {x : V} {d : PyData} {w k : Nat} (h : Dq H x d) (hf : Fine w k d) (hw : w ≤ 80000) (hk : k ≤ 60) (q : Q (.str d.shown) H) : rRepr [x] H Q := ⟨x, d, rfl, h, hf.shw hw hk, q⟩
end HX
namespace HX
open PySem PySem.Spec PyProof.Rows L2
def rListQ (K : PySem.W.Frag) : List V → Hp → VK → Prop := fun xs H Q => ∃ p ys, xs = [.ref p] ∧ (SqL K H p ys ∨ SqT K H p ys) ∧ ∀ l, H l = none → Q (.ref l) (upd H l (.lst ys))
theorem call_listQ {X : Cx} : CallR X (.type "list") (rListQ X.K) := call_list_of
theorem go_listL {K : PySem.W.Frag} {H : Hp} {Q : VK} {p : Addr} {ys : List V} (h : Rd H p (.lst ys)) (k : ∀ l, H l = none → Q (.ref l) (upd H l (.lst ys))) : rListQ K [.ref p] H Q := ⟨p, ys, rfl, .inl (.inl h), k⟩
end HX

set_option Elab.async false
set_option linter.all false
set_option maxRecDepth 100000
set_option maxHeartbeats 2000000
/-! texts: methods, slices, what is walked sign by sign -/
namespace HX
open PySem PySem.Spec PyProof.Rows L2 TL
def rSw : V → List V → Hp → VK → Prop := fun x xs H Q => ∃ a b, x = .str a ∧ xs = [.str b] ∧ Q (.bl (Txt.startswith a b)) H
def rFnd : V → List V → Hp → VK → Prop := fun x xs H Q => ∃ a b, x = .str a ∧ xs = [.str b] ∧ Q (.int (Txt.find a b)) H
def rPrt : V → List V → Hp → VK → Prop := fun x xs H Q => ∃ a b, x = .str a ∧ xs = [.str b] ∧ (b.length == 0) = false ∧ a.length ≤ sizeLine ∧ ∀ p, H p = none → Q (.ref p) (upd H p (.tup [.str (Txt.partition a b).1, .str (Txt.partition a b).2.1, .str (Txt.partition a b).2.2]))
def rSpl : V → List V → Hp → VK → Prop := fun x xs H Q => ∃ a b, x = .str a ∧ xs = [.str b] ∧ (b.length == 0) = false ∧ a.length + 2 ≤ sizeLine ∧ rNewStrs (Txt.split a b) H Q
def rJoi (K : PySem.W.Frag) : V → List V → Hp → VK → Prop := fun x xs H Q => ∃ a p, ∃ ys : List Str, x = .str a ∧ xs = [.ref p] ∧ (SqL K H p (ys.map V.str) ∨ SqT K H p (ys.map V.str)) ∧ (ys.map (·.length)).sum + ys.length * a.length ≤ 16777216 ∧ Q (.str (Txt.join a ys)) H
def rLenS : List V → Hp → VK → Prop := fun xs H Q => ∃ z, xs = [.str z] ∧ z.length ≤ sizeLine ∧ Q (.int z.length) H
def rIntS : List V → Hp → VK → Prop := fun xs H Q => ∃ a n, xs = [.str a] ∧ PySem.intText? a = some n ∧ a.length ≤ 640 ∧ Q (.int n) H
def rStrI : List V → Hp → VK → Prop := fun xs H Q => ∃ i : Int, xs = [.int i] ∧ i.natAbs.log2 < 1920 ∧ Q (.str (toString i)) H
def rAllB (K : PySem.W.Frag) : List V → Hp → VK → Prop := fun vs H Q => ∃ (a : Addr) (bs : List Bool), vs = [V.ref a] ∧ SqL K H a (bs.map V.bl) ∧ Q (.bl (bs.all id)) H
def rSgn : R2 := fun x y H Q => ∃ (c : Nat) (z : Str), x = .str ⟨#[c]⟩ ∧ y = .str z ∧ Q (.bl (decide (c ∈ z.cps.toList))) H
def rNsg : R2 := fun x y H Q => ∃ (c : Nat) (z : Str), x = .str ⟨#[c]⟩ ∧ y = .str z ∧ Q (.bl (!decide (c ∈ z.cps.toList))) H
def rAddS : R2 := fun x y H Q => ∃ i j : Str, x = .str i ∧ y = .str j ∧ i.length + j.length ≤ sizeLine ∧ Q (.str (i ++ j)) H
section
variable {X : Cx}
theorem mt_sw : MtR X "str.startswith" rSw := mt_startswith
theorem mt_fnd : MtR X "str.find" rFnd := mt_find
theorem mt_prt : MtR X "str.partition" rPrt := mt_partition
theorem mt_spl : MtR X "str.split" rSpl := mt_split
theorem mt_joi : MtR X "str.join" (rJoi X.K) := mt_join
theorem call_lenS : CallR X (.builtin "len") rLenS := call_len_str
theorem call_intS : CallR X (.type "int") rIntS := call_int_str
theorem call_strI : CallR X (.type "str") rStrI := call_str_int
theorem call_allB (h : X.calm = true) : CallR X (.builtin "all") (rAllB X.K) := cr_all h
theorem op_sgn : OpR X (compareOp .In) rSgn := op_in_sign
theorem op_nsg : OpR X (compareOp .NotIn) rNsg := op_notIn_sign
theorem op_addS : OpR X (binaryOp .Add) rAddS := op_add_str
end
section
variable {K : PySem.W.Frag} {H : Hp} {Q : VK} {σ : L2.St} {to te : TE} {a b z : Str} {r : V → List V → Hp → VK → Prop} {lo hi : Option Int} {c : Nat}
theorem go_m1 (h : to σ H fun x H1 => (∃ a, x = .str a) ∧ te σ H1 fun y H2 => r x [y] H2 Q) : tM1 r to te σ H Q := h
theorem go_isS {P : Prop} (k : P) : (∃ b, V.str a = .str b) ∧ P := ⟨⟨a, rfl⟩, k⟩
theorem go_rSw (q : Q (.bl (Txt.startswith a b)) H) : rSw (.str a) [.str b] H Q := ⟨a, b, rfl, rfl, q⟩
theorem go_rFnd (q : Q (.int (Txt.find a b)) H) : rFnd (.str a) [.str b] H Q := ⟨a, b, rfl, rfl, q⟩
theorem go_rPrt (h1 : (b.length == 0) = false) (h2 : a.length ≤ sizeLine) (q : ∀ p, H p = none → Q (.ref p) (upd H p (.tup [.str (Txt.partition a b).1, .str (Txt.partition a b).2.1, .str (Txt.partition a b).2.2]))) : rPrt (.str a) [.str b] H Q := ⟨a, b, rfl, rfl, h1, h2, q⟩
theorem go_rSpl (h1 : (b.length == 0) = false) (h2 : a.length + 2 ≤ sizeLine) (q : ∀ p, H p = none → Q (.ref p) (upd H p (.lst ((Txt.split a b).map V.str)))) : rSpl (.str a) [.str b] H Q := ⟨a, b, rfl, rfl, h1, h2, q⟩
theorem go_rJoi {p : Addr} {ys : List Str} (h1 : Rd H p (.lst (ys.map V.str))) (h2 : (ys.map (·.length)).sum + ys.length * a.length ≤ 16777216) (q : Q (.str (Txt.join a ys)) H) : rJoi K (.str a) [.ref p] H Q := ⟨a, p, ys, rfl, rfl, .inl (.inl h1), h2, q⟩
theorem go_rLenS (h : z.length ≤ sizeLine) (q : Q (.int z.length) H) : rLenS [.str z] H Q := ⟨z, rfl, h, q⟩
theorem go_rIntS {n : Int} (h1 : PySem.intText? a = some n) (h2 : a.length ≤ 640) (q : Q (.int n) H) : rIntS [.str a] H Q := ⟨a, n, rfl, h1, h2, q⟩
theorem go_rStrI {i : Int} (h : i.natAbs.log2 < 1920) (q : Q (.str (toString i)) H) : rStrI [.int i] H Q := ⟨i, rfl, h, q⟩
theorem go_rAllB {p : Addr} {bs : List Bool} (h : Rd H p (.lst (bs.map V.bl))) (q : Q (.bl (bs.all id)) H) : rAllB K [.ref p] H Q := ⟨p, bs, rfl, .inl h, q⟩
theorem go_sgn (q : Q (.bl (decide (c ∈ z.cps.toList))) H) : rSgn (.str ⟨#[c]⟩) (.str z) H Q := ⟨c, z, rfl, rfl, q⟩
theorem go_nsg (q : Q (.bl (!decide (c ∈ z.cps.toList))) H) : rNsg (.str ⟨#[c]⟩) (.str z) H Q := ⟨c, z, rfl, rfl, q⟩
theorem go_rAddS (h : a.length + b.length ≤ sizeLine) (q : Q (.str (a ++ b)) H) : rAddS (.str a) (.str b) H Q := ⟨a, b, rfl, rfl, h, q⟩
theorem go_slS (h : z.length ≤ sizeLine) (q : Q (.str (L2.cutS z lo hi)) H) : rSlS (.str z) lo hi H Q := ⟨z, rfl, h, q⟩
theorem go_ixS {i : Int} (h : z.length ≤ sizeLine) (hi : atI z.cps.toList i = some c) (q : Q (.str ⟨#[c]⟩) H) : rIxS (.str z) (.int i) H Q := ⟨z, i, c, rfl, rfl, h, hi, q⟩
end
/-- str(x) of an int or None -/
def rStrO : List V → Hp → VK → Prop := fun xs H Q => (∃ i : Int, xs = [.int i] ∧ i.natAbs.log2 < 1920 ∧ Q (.str (toString i)) H) ∨ (xs = [.non] ∧ Q (.str "None") H)
theorem call_strO {X : Cx} : CallR X (.type "str") rStrO := by
  intro pins s σ H xs us Q I r h
  rcases h with ⟨i, rfl, hz, q⟩ | ⟨rfl, q⟩
  · exact call_strI pins s σ H _ us Q I r ⟨i, rfl, hz, q⟩
  · obtain ⟨u, rfl, ru⟩ := vals1 r
    cases ru
    exact PySem.P.str_of_none ⟨.str _, H, I.tok _, ⟨_, rfl⟩, q⟩
def rMulS : R2 := fun x y H Q => ∃ (a : Str) (k : Int), x = .str a ∧ y = .int k ∧ PySem.MulOk a k ∧ Q (.str (Txt.mul a k)) H
theorem op_mulS {X : Cx} : OpR X (binaryOp .Mult) rMulS := by
  intro pins s σ H x y v u Q I rx ry h
  obtain ⟨a, k, rfl, rfl, hk, q⟩ := h
  obtain ⟨t, rfl⟩ := rx
  obtain ⟨t', rfl⟩ := ry
  exact PySem.SB.mul hk fun t' tk => ⟨.str _, H, I.tok _, ⟨_, rfl⟩, q⟩
theorem go_mulS {a : Str} {k : Int} {H : Hp} {Q : VK} (h : PySem.MulOk a k) (q : Q (.str (Txt.mul a k)) H) : rMulS (.str a) (.int k) H Q := ⟨a, k, rfl, rfl, h, q⟩
theorem go_par3 {i j l : Nat} {ta : TA} {D : Ends} {σ : L2.St} {H : Hp} (h : ta σ H fun vs H1 => ∃ u v w, vs = [u, v, w] ∧ D.nx (((σ.set i (some u)).set j (some v)).set l (some w)) H1) : tPar3 i j l ta D σ H := h
theorem go_three {P : V → V → V → Prop} {x y z : V} (h : P x y z) : ∃ u v w, [x, y, z] = [u, v, w] ∧ P u v w := ⟨x, y, z, rfl, h⟩
/-! a comprehension over a text -/
def lcS (x : Str) (g : TG) (tt : TT) (te : TE) (vs : List Nat) : TE := tLc (fun _ H R => R (Its x) H) g tt te vs
section
variable {H : Hp} {Q : VK} {σ : L2.St} {tl te : TE} {tt : TT} {g : TG} {vs : List Nat} {x : Str}
theorem go_lcS (h : tl σ H fun v H1 => ∃ x, v = .str x ∧ lcS x g tt te vs σ H1 Q) : tLc (iStr tl) g tt te vs σ H Q := h
theorem run_lcS (Pv : Addr → Nat → Hp → Prop) (h0 : ∀ D, H D = none → Pv D 0 (upd H D (.lst [])))
    (hs : ∀ D i c H, (TL.tl x)[i]? = some c → Pv D i H → g (.str ⟨#[c]⟩) (wipe σ vs) H fun σ2 H2 => wipe σ2 vs = wipe σ vs ∧ tt σ2 H2 fun b H3 =>
      if b = true then te σ2 H3 fun y H4 => ∃ acc, H4 D = some (.lst acc) ∧ acc.length < sizeLine ∧ Pv D (i + 1) (upd H4 D (.lst (acc ++ [y]))) else Pv D (i + 1) H3) (hd : ∀ D H', H D = none → Pv D (TL.tl x).length H' → Q (.ref D) H') : lcS x g tt te vs σ H Q := by
  intro D hD
  refine ⟨fun i m H => m = x.cps.size - i ∧ i ≤ x.cps.size ∧ Pv D i H, ⟨x.cps.size, by simp, Nat.zero_le _, h0 D hD⟩, ?_⟩
  rintro i m H' ⟨rfl, hi, p⟩
  by_cases hlt : i < x.cps.size
  · refine .inr ⟨hlt, Pv D (i + 1), fun H' p' => ⟨x.cps.size - (i + 1), by omega, rfl, hlt, p'⟩, fun v H2 y => ?_⟩
    obtain ⟨rfl, c, hc, rfl⟩ := y
    exact hs D i c _ (by rw [← hc]; exact Array.getElem?_toList) p
  · obtain rfl : i = x.cps.size := by omega
    exact .inl ⟨Nat.le_refl _, hd D H' hD (by rw [show (TL.tl x).length = x.cps.size from Array.length_toList]; exact p)⟩
end
end HX

set_option Elab.async false
set_option linter.all false
set_option maxRecDepth 100000
set_option maxHeartbeats 1000000

namespace Kx
open PySem PySem.Spec PyProof.Rows L2 HX
open Evl (Ex)
def top (i : Nat) : Stmt := PySem.Challenge.pw_imagetones_k49_written_texts.main.body.getD i (.Pass ⟨0, 0, 0, 0⟩)
/-- the tank: what is left of a cell, a seed, how many draws were mixed (n at most) -/
def JarAt (n : Nat) (H : Hp) (j : Addr) : Prop := ∃ a b c : Int, H j = some (.lst [.int a, .int b, .int c]) ∧ 0 ≤ b ∧ b < 2 ^ 95 ∧ 0 ≤ c ∧ c ≤ n
theorem JarAt.mono {n m : Nat} {H : Hp} {j : Addr} (h : JarAt n H j) (e : n ≤ m) : JarAt m H j := by
  obtain ⟨a, b, c, h1, h2, h3, h4, h5⟩ := h
  exact ⟨a, b, c, h1, h2, h3, h4, by omega⟩
theorem JarAt.keep {n : Nat} {H H' : Hp} {j : Addr} (h : JarAt n H j) (e : H' j = H j) : JarAt n H' j := let ⟨a, b, c, h, r⟩ := h; ⟨a, b, c, e.trans h, r⟩
theorem JarAt.obj {n : Nat} {H : Hp} {j : Addr} (h : JarAt n H j) : ∃ o, H j = some o := let ⟨_, _, _, h, _⟩ := h; ⟨_, h⟩
def spJar (K : PySem.W.Frag) : Sp := fun vs H Q _ => ∃ (a : Addr) (ns : List Int) (i : Nat), vs = [.ref a, .int i] ∧ SqL K H a (ns.map V.int) ∧ i < 1000 ∧ ∀ j H', H j = none → Ex H H' → JarAt 0 H' j → Q (.ref j) H'
def spPick : Sp := fun vs H Q _ => ∃ (j : Addr) (bound : Int) (n : Nat), vs = [.ref j, .int bound] ∧ JarAt n H j ∧ n < 2 ^ 50 ∧ 0 < bound ∧ bound < 2 ^ 400 ∧
  ∀ (r : Int) (H' : Hp), 0 ≤ r → r < bound → JarAt (n + 1) H' j → Jx [j] H H' → Q (.int r) H'
theorem pick_go {j : Addr} {bound : Int} {n : Nat} {H : Hp} {Q : VK} {E : XK} (hJ : JarAt n H j) (hn : n < 2 ^ 50) (h0 : 0 < bound) (h1 : bound < 2 ^ 400)
    (k : ∀ (r : Int) (H' : Hp), 0 ≤ r → r < bound → JarAt (n + 1) H' j → Jx [j] H H' → Q (.int r) H') : spPick ([.ref j, .int bound] ++ []) H Q E := ⟨j, bound, n, rfl, hJ, hn, h0, h1, k⟩
local macro_rules | `(tactic| walk_at "side") => `(tactic| first | assumption | ((try dsimp only); first | assumption | decide +kernel | omega | exact ⟨by decide, by decide⟩ | (left; decide) | (left; omega) | (refine Or.inl ⟨?_, ?_⟩ <;> omega) | (refine Or.inr ⟨?_, ?_⟩ <;> omega)))
local macro_rules | `(tactic| walk_at "heap") => `(tactic| first | assumption | exact upd_same | exact Or.inl (by assumption) | exact Or.inl upd_same)
local macro_rules | `(tactic| walk_at "item") => `(tactic| first | exact rfl | exact atI_nat (j := 0) rfl | exact atI_nat (j := 1) rfl | exact atI_nat (j := 2) rfl | assumption)
local macro_rules | `(tactic| walk_at "rd") => `(tactic| repeat (first
  | ((with_reducible refine' go_var ?hv ?_); (case hv => exact rfl))
  | with_reducible refine' go_c ?_
  | with_reducible refine' go_op ?_
  | with_reducible refine' go_seq ?_
  | with_reducible refine' go_asg ?_
  | with_reducible refine' go_name ?_
  | with_reducible refine' go_cons ?_
  | with_reducible refine' go_nil ?_
  | with_reducible refine' go_cb ?_
  | with_reducible refine' go_call ?_
  | with_reducible refine' go_ifS ?_
  | with_reducible refine' go_test ?_
  | with_reducible refine' go_bl ?_
  | with_reducible refine' go_ret ?_
  | with_reducible refine' go_I0 ?_
  | ((with_reducible refine' go_I ?cc ?_); (case cc => walk_at "side"))
  | ((with_reducible refine' go_ixL ?hh ?hk ?_); (case hh => walk_at "heap"); (case hk => walk_at "item"))
  | ((with_reducible refine' go_ixT ?hh ?hk ?_); (case hh => walk_at "heap"); (case hk => walk_at "item"))
  | ((with_reducible refine' go_lenL ?hh ?_); (case hh => walk_at "heap"))
  | ((with_reducible refine' go_lenT ?hh ?_); (case hh => walk_at "heap"))
  | ((with_reducible refine' go_setL ?hh ?hk ?_); (case hh => walk_at "heap"); (case hk => walk_at "item"))
  | with_reducible refine' go_abs ?_
  | with_reducible refine' go_max ?_
  | with_reducible refine' go_min ?_
  | with_reducible refine' go_int ?_
  | with_reducible refine' go_intB ?_
  | (with_reducible refine' go_eq rfl ?_)
  | (with_reducible refine' go_ne rfl ?_)
  | with_reducible refine' go_isN ?_
  | with_reducible refine' go_notN ?_
  | with_reducible refine' go_if ?_
  | with_reducible refine' go_sub ?_
  | with_reducible refine' go_par ?_
  | with_reducible refine' go_sl ?_
  | with_reducible refine' go_part ?_
  | with_reducible refine' go_pint ?_
  | with_reducible refine' go_nopart ?_
  | ((with_reducible refine' go_lenL ?hh ?_); (case hh => walk_at "heap"))
  | ((with_reducible refine' go_lenT ?hh ?_); (case hh => walk_at "heap"))
  | ((with_reducible refine' go_lenS ?hh ?_); (case hh => assumption))
  | with_reducible refine' go_gcons ?_
  | with_reducible refine' go_gnil ?_
  | with_reducible refine' go_kw ?_
  | with_reducible refine' go_par2 ?_
  | with_reducible refine' go_next ?_
  | with_reducible refine' go_drop ?_
  | with_reducible refine' go_and ?_
  | with_reducible refine' go_or ?_
  | with_reducible refine' go_not ?_
  | with_reducible refine' go_B ?_
  | with_reducible refine' go_andV ?_
  | with_reducible refine' go_orV ?_
  | with_reducible refine' go_notV ?_
  | with_reducible refine' go_chain ?_
  | with_reducible refine' go_un ?_
  | with_reducible refine' go_U ?_
  | with_reducible refine' go_bm ?_
  | with_reducible refine' go_tup ?_
  | with_reducible refine' go_lst ?_
  | with_reducible refine' go_forR1 ?_
  | with_reducible refine' go_forR2 ?_
  | with_reducible refine' go_forL ?_
  | with_reducible refine' go_forT ?_
  | with_reducible refine' go_forE ?_
  | with_reducible refine' go_lcR1 ?_
  | with_reducible refine' go_lcL ?_
  | with_reducible refine' go_lcT ?_
  | ((with_reducible refine' go_tyL ?hh ?_); (case hh => walk_at "heap"))
  | ((with_reducible refine' go_new ?hz ?_); (case hz => exact Nat.le_of_ble_eq_true rfl))
  | (with_reducible refine' ⟨_, rfl, ?_⟩)
  ))
--MACEND
section
variable {P : Program} {w : World} {K : PySem.W.Frag} {mg : Str → Option Value} {base : Heap}
end
end Kx

set_option Elab.async false
set_option linter.all false
set_option maxRecDepth 100000
set_option maxHeartbeats 2000000

namespace Kx
open PySem PySem.Spec PyProof.Rows L2 HX
open Evl (Ex)
/-! ### receivers as data -/
inductive Stg where
  | mix (lo : Int) | dial (add : Int) | pass (lo hi : Int)
def Stg.d : Stg → PyData
  | .mix lo => .tuple [.str "mix", .int lo]
  | .dial a => .tuple [.str "dial", .int a]
  | .pass lo hi => .tuple [.str "pass", .int lo, .int hi]
def Stg.ok (b : Int) : Stg → Prop
  | .mix lo => 0 ≤ lo ∧ lo ≤ b
  | .dial a => -b ≤ a ∧ a ≤ b
  | .pass lo hi => 0 ≤ lo ∧ lo ≤ hi ∧ hi ≤ b
def Stg.isDial : Stg → Bool
  | .dial _ => true
  | _ => false
def dials (ss : List Stg) : Nat := (ss.filter Stg.isDial).length
def rateD : Option Int → PyData
  | none => .none
  | some r => .int r
structure Rad (b : Int) (ss : List Stg) (rate : Option Int) : Prop where
  ne : ss ≠ []
  le : ss.length ≤ 8
  ok : ∀ s ∈ ss, s.ok b
  one : dials ss ≤ 1
  rate : ∀ r, rate = some r → 2 ≤ r ∧ r ≤ b
def radD (ss : List Stg) (rate : Option Int) : PyData := .tuple [.list (ss.map Stg.d), rateD rate]
/-- a stage's tuple at a -/
theorem stg_at {H : Hp} {v : V} {s : Stg} (h : Dq H v s.d) : ∃ a, v = .ref a ∧ match s with
    | .mix lo => Rd H a (.tup [.str "mix", .int lo])
    | .dial x => Rd H a (.tup [.str "dial", .int x])
    | .pass lo hi => Rd H a (.tup [.str "pass", .int lo, .int hi]) := by
  cases s with
  | mix lo => cases h with | tup h1 h2 => cases h2 with | cons q1 q2 => cases q1; cases q2 with | cons q3 q4 => cases q3; cases q4; exact ⟨_, rfl, h1⟩
  | dial lo => cases h with | tup h1 h2 => cases h2 with | cons q1 q2 => cases q1; cases q2 with | cons q3 q4 => cases q3; cases q4; exact ⟨_, rfl, h1⟩
  | pass lo hi => cases h with | tup h1 h2 => cases h2 with | cons q1 q2 => cases q1; cases q2 with | cons q3 q4 => cases q3; cases q4 with | cons q5 q6 => cases q5; cases q6; exact ⟨_, rfl, h1⟩
def Stg.vals : Stg → List V
  | .mix lo => [.str "mix", .int lo]
  | .dial x => [.str "dial", .int x]
  | .pass lo hi => [.str "pass", .int lo, .int hi]
theorem dq_stg {S : List Addr} {G : Hp} {q : Addr} {s : Stg} (h : G q = some (.tup s.vals)) (hq : q ∉ S) : Dq (hid S G) (.ref q) s.d := by
  have h' : hid S G q = some (.tup s.vals) := by rw [hid_ne hq]; exact h
  cases s with
  | mix lo => exact .tup (.inl h') (.cons (.str _) (.cons (.int _) .nil))
  | dial x => exact .tup (.inl h') (.cons (.str _) (.cons (.int _) .nil))
  | pass lo hi => exact .tup (.inl h') (.cons (.str _) (.cons (.int _) (.cons (.int _) .nil)))
theorem dials_app (ss : List Stg) (s : Stg) : dials (ss ++ [s]) = dials ss + (if s.isDial then 1 else 0) := by
  unfold dials
  rw [List.filter_append, List.length_append, List.filter_cons]
  split <;> rfl
def spRadio : Sp := fun vs H Q _ => ∃ (j : Addr) (most far : Int) (n : Nat), vs = [.ref j, .int most, .int far] ∧ JarAt n H j ∧ n < 2 ^ 40 ∧ 1 ≤ most ∧ most ≤ 8 ∧ 1 ≤ far ∧ far < 2 ^ 200 ∧
  ∀ (p : Addr) (ss : List Stg) (rate : Option Int) (H' : Hp), Rad (10 * far + 20) ss rate → ss.length ≤ most.toNat → Dq (hid [j] H') (.ref p) (radD ss rate) → H p = none → JarAt (n + 100) H' j → Jx [j] H H' → Q (.ref p) H'
local macro_rules | `(tactic| walk_at "side") => `(tactic| first | assumption | ((try dsimp only); first | assumption | decide +kernel | omega | exact ⟨by decide, by decide⟩ | (left; decide) | (left; omega) | (refine Or.inl ⟨?_, ?_⟩ <;> omega) | (refine Or.inr ⟨?_, ?_⟩ <;> omega)))
local macro_rules | `(tactic| walk_at "heap") => `(tactic| first | assumption | exact upd_same | exact Or.inl (by assumption) | exact Or.inl upd_same)
local macro_rules | `(tactic| walk_at "item") => `(tactic| first | exact rfl | exact atI_nat (j := 0) rfl | exact atI_nat (j := 1) rfl | exact atI_nat (j := 2) rfl | assumption)
local macro_rules | `(tactic| walk_at "rd") => `(tactic| repeat (first
  | ((with_reducible refine' go_var ?hv ?_); (case hv => exact rfl))
  | with_reducible refine' go_c ?_
  | with_reducible refine' go_op ?_
  | with_reducible refine' go_seq ?_
  | with_reducible refine' go_asg ?_
  | with_reducible refine' go_name ?_
  | with_reducible refine' go_cons ?_
  | with_reducible refine' go_nil ?_
  | with_reducible refine' go_cb ?_
  | with_reducible refine' go_call ?_
  | with_reducible refine' go_ifS ?_
  | with_reducible refine' go_test ?_
  | with_reducible refine' go_bl ?_
  | with_reducible refine' go_ret ?_
  | with_reducible refine' go_I0 ?_
  | ((with_reducible refine' go_I ?cc ?_); (case cc => walk_at "side"))
  | ((with_reducible refine' go_ixL ?hh ?hk ?_); (case hh => walk_at "heap"); (case hk => walk_at "item"))
  | ((with_reducible refine' go_ixT ?hh ?hk ?_); (case hh => walk_at "heap"); (case hk => walk_at "item"))
  | ((with_reducible refine' go_lenL ?hh ?_); (case hh => walk_at "heap"))
  | ((with_reducible refine' go_lenT ?hh ?_); (case hh => walk_at "heap"))
  | ((with_reducible refine' go_setL ?hh ?hk ?_); (case hh => walk_at "heap"); (case hk => walk_at "item"))
  | with_reducible refine' go_abs ?_
  | with_reducible refine' go_max ?_
  | with_reducible refine' go_min ?_
  | with_reducible refine' go_int ?_
  | with_reducible refine' go_intB ?_
  | (with_reducible refine' go_eq rfl ?_)
  | (with_reducible refine' go_ne rfl ?_)
  | with_reducible refine' go_isN ?_
  | with_reducible refine' go_notN ?_
  | with_reducible refine' go_if ?_
  | with_reducible refine' go_sub ?_
  | with_reducible refine' go_par ?_
  | with_reducible refine' go_sl ?_
  | with_reducible refine' go_part ?_
  | with_reducible refine' go_pint ?_
  | with_reducible refine' go_nopart ?_
  | ((with_reducible refine' go_lenL ?hh ?_); (case hh => walk_at "heap"))
  | ((with_reducible refine' go_lenT ?hh ?_); (case hh => walk_at "heap"))
  | ((with_reducible refine' go_lenS ?hh ?_); (case hh => assumption))
  | with_reducible refine' go_gcons ?_
  | with_reducible refine' go_gnil ?_
  | with_reducible refine' go_kw ?_
  | with_reducible refine' go_par2 ?_
  | with_reducible refine' go_next ?_
  | with_reducible refine' go_drop ?_
  | with_reducible refine' go_and ?_
  | with_reducible refine' go_or ?_
  | with_reducible refine' go_not ?_
  | with_reducible refine' go_B ?_
  | with_reducible refine' go_andV ?_
  | with_reducible refine' go_orV ?_
  | with_reducible refine' go_notV ?_
  | with_reducible refine' go_chain ?_
  | with_reducible refine' go_un ?_
  | with_reducible refine' go_U ?_
  | with_reducible refine' go_bm ?_
  | with_reducible refine' go_tup ?_
  | with_reducible refine' go_lst ?_
  | with_reducible refine' go_forR1 ?_
  | with_reducible refine' go_forR2 ?_
  | with_reducible refine' go_forL ?_
  | with_reducible refine' go_forT ?_
  | with_reducible refine' go_forE ?_
  | with_reducible refine' go_lcR1 ?_
  | with_reducible refine' go_lcL ?_
  | with_reducible refine' go_lcT ?_
  | ((with_reducible refine' go_tyL ?hh ?_); (case hh => walk_at "heap"))
  | ((with_reducible refine' go_new ?hz ?_); (case hz => exact Nat.le_of_ble_eq_true rfl))
  | (with_reducible refine' ⟨_, rfl, ?_⟩)
  ))
--MACEND
section
variable {P : Program} {w : World} {K : PySem.W.Frag} {mg : Str → Option Value} {base : Heap}
/-- what stands between two laps: the list at l holds the data ss, of which no more than one is a dial, none before the lap `spot` -/
structure Lap (b : Int) (S : List Addr) (l : Addr) (i : Nat) (spot : Int) (H : Hp) (vs : List V) (ss : List Stg) : Prop where
  at_ : H l = some (.lst vs)
  da : DqAll (hid S H) vs (ss.map Stg.d)
  len : ss.length = i
  ok : ∀ s ∈ ss, s.ok b
  one : dials ss ≤ if spot < i then 1 else 0
theorem Lap.jar {b : Int} {S : List Addr} {l : Addr} {i : Nat} {spot : Int} {H H' : Hp} {vs : List V} {ss : List Stg} (h : Lap b S l i spot H vs ss) (e : Jx S H H') (hl : H' l = H l) : Lap b S l i spot H' vs ss :=
  ⟨hl.trans h.at_, e.dqa h.da, h.len, h.ok, h.one⟩
/-- one more stage -/
theorem Lap.app {b : Int} {S : List Addr} {l : Addr} {i : Nat} {spot : Int} {H : Hp} {vs : List V} {ss : List Stg} {v : V} {s : Stg} (h : Lap b S l i spot H vs ss) (hS : l ∈ S) (hv : Dq (hid S H) v s.d) (hs : s.ok b)
    (hd : s.isDial = true → (i : Int) = spot) : Lap b S l (i + 1) spot (upd H l (.lst (vs ++ [v]))) (vs ++ [v]) (ss ++ [s]) := by
  refine ⟨upd_same, ?_, by rw [List.length_append, h.len]; rfl, fun x hx => ?_, ?_⟩
  · rw [hid_upd hS, List.map_append]
    exact h.da.app (.one hv)
  · rcases List.mem_append.mp hx with hx | hx
    · exact h.ok x hx
    · rw [List.mem_singleton.mp hx]; exact hs
  · have h1 := h.one
    rw [dials_app]
    by_cases q : s.isDial = true
    · have := hd q
      rw [if_pos q, if_pos (by omega)]
      rw [if_neg (by omega)] at h1
      omega
    · rw [if_neg q]
      by_cases z : spot < (i : Int)
      · rw [if_pos z] at h1; rw [if_pos (by omega)]; omega
      · rw [if_neg z] at h1
        have : dials ss = 0 := by omega
        rw [this]
        split <;> omega
theorem Jx_free {S : List Addr} {H H' : Hp} {t : Addr} (e : Jx S H H') (h : H' t = none) (ht : ∀ s ∈ S, H' s ≠ none) : H t = none := by
  cases q : H t with
  | none => rfl
  | some o =>
    have := e.get q fun z => ht t z h
    rw [h] at this
    cases this
theorem dqa_snoc {H : Hp} : ∀ {vs : List V} {ds : List PyData} {d : PyData}, DqAll H vs (ds ++ [d]) → ∃ vs0 v, vs = vs0 ++ [v] ∧ DqAll H vs0 ds ∧ Dq H v d
  | _, [], d, .cons (v := v) h k => by cases k; exact ⟨[], v, rfl, .nil, h⟩
  | _, e :: ds, d, .cons (v := v) h k => by
    obtain ⟨vs0, w, rfl, h1, h2⟩ := dqa_snoc k
    exact ⟨v :: vs0, w, rfl, .cons h h1, h2⟩
theorem stgs_nil (ss : List Stg) : PyData.eqv (.list (ss.map Stg.d)) (.list []) = ss.isEmpty := by cases ss <;> simp [PyData.eqv, PyData.eqvAll]
/-- the name of a stage -/
def Stg.nm : Stg → Str
  | .mix _ => "mix"
  | .dial _ => "dial"
  | .pass _ _ => "pass"
theorem stg_nm {H : Hp} {v : V} {s : Stg} (h : Dq H v s.d) : ∃ a xs, v = .ref a ∧ Rd H a (.tup xs) ∧ atI xs 0 = some (.str s.nm) := by
  obtain ⟨a, rfl, h⟩ := stg_at h
  cases s with
  | mix lo => exact ⟨_, _, rfl, h, rfl⟩
  | dial lo => exact ⟨_, _, rfl, h, rfl⟩
  | pass lo hi => exact ⟨_, _, rfl, h, rfl⟩
theorem nm_dial (s : Stg) : decide (V.str s.nm = V.str "dial") = s.isDial := by
  cases s with
  | mix lo => exact (by decide +kernel : decide (V.str "mix" = V.str "dial") = false)
  | dial lo => exact (by decide +kernel : decide (V.str "dial" = V.str "dial") = true)
  | pass lo hi => exact (by decide +kernel : decide (V.str "pass" = V.str "dial") = false)
theorem strs_ok : PyData.strOk "mix" = true ∧ PyData.strOk "dial" = true ∧ PyData.strOk "pass" = true := by decide +kernel
theorem lay_stg : ∀ s : Stg, s.d.canLay0 = true
  | .mix lo => by simp [Stg.d, PyData.canLay0, PyData.canLayAll0, strs_ok]
  | .dial lo => by simp [Stg.d, PyData.canLay0, PyData.canLayAll0, strs_ok]
  | .pass lo hi => by simp [Stg.d, PyData.canLay0, PyData.canLayAll0, strs_ok]
theorem depth_stg : ∀ s : Stg, s.d.depth = 1
  | .mix lo => rfl
  | .dial lo => rfl
  | .pass lo hi => rfl
theorem lay_stgs : ∀ ss : List Stg, PyData.canLayAll0 (ss.map Stg.d) = true ∧ PyData.depthAll (ss.map Stg.d) ≤ 1
  | [] => ⟨rfl, Nat.zero_le _⟩
  | s :: ss => by
    obtain ⟨h1, h2⟩ := lay_stgs ss
    refine ⟨by rw [List.map_cons, PyData.canLayAll0, lay_stg, h1]; rfl, ?_⟩
    rw [List.map_cons, PyData.depthAll, depth_stg]
    omega
theorem shaped_stgs (ss : List Stg) : SeqAt.shaped (.list (ss.map Stg.d)) = true := by
  obtain ⟨h1, h2⟩ := lay_stgs ss
  unfold SeqAt.shaped
  rw [Bool.and_eq_true]
  refine ⟨by simpa [PyData.canLay0] using h1, decide_eq_true ?_⟩
  rw [PyData.depth]
  omega
theorem menu_int (xs : List Int) (lo hi : Int) {u : Int} (h0 : 0 ≤ u) (h1 : u < xs.length) (hb : ∀ x ∈ xs, lo ≤ x ∧ x ≤ hi) : ∃ x, atI (xs.map V.int) u = some (.int x) ∧ lo ≤ x ∧ x ≤ hi := by
  obtain ⟨k, rfl⟩ : ∃ k : Nat, u = k := ⟨u.toNat, by omega⟩
  have hk : k < xs.length := by omega
  exact ⟨xs[k], atI_nat (by rw [List.getElem?_map, List.getElem?_eq_getElem hk]; rfl), hb _ (List.getElem_mem hk)⟩
theorem JarAt.fresh {n : Nat} {H H' : Hp} {j t : Addr} (J : JarAt n H' j) (e : Jx [j] H H') (h : H' t = none) : H t = none :=
  Jx_free e h fun s hs z => by
    obtain rfl : s = j := by simpa using hs
    obtain ⟨o, q⟩ := J.obj
    rw [z] at q
    cases q
theorem Lap.lay {b : Int} {S : List Addr} {l p : Addr} {i : Nat} {spot : Int} {H : Hp} {o : HO} {vs : List V} {ss : List Stg} (h : Lap b S l i spot H vs ss) (hp : H p = none) : Lap b S l i spot (upd H p o) vs ss :=
  h.jar (Jx.new hp) (upd_ne (fresh_ne h.at_ hp).symm)
theorem Lap.pick {b : Int} {l j : Addr} {i : Nat} {spot : Int} {H H' : Hp} {vs : List V} {ss : List Stg} (h : Lap b [l, j] l i spot H vs ss) (hlj : l ≠ j) (e : Jx [j] H H') : Lap b [l, j] l i spot H' vs ss :=
  h.jar (e.more (by simp)) ((e.get h.at_ (nin1 hlj)).trans h.at_.symm)
end
end Kx

set_option Elab.async false
set_option linter.all false
set_option maxRecDepth 100000
set_option maxHeartbeats 2000000

namespace Kx
open PySem PySem.Spec PyProof.Rows L2 HX
open Evl (Ex)
local macro_rules | `(tactic| walk_at "side") => `(tactic| first | assumption | ((try dsimp only); first | assumption | decide +kernel | omega | exact ⟨by decide, by decide⟩ | (left; decide) | (left; omega) | (refine Or.inl ⟨?_, ?_⟩ <;> omega) | (refine Or.inr ⟨?_, ?_⟩ <;> omega)))
local macro_rules | `(tactic| walk_at "heap") => `(tactic| first | assumption | exact upd_same | exact Or.inl (by assumption) | exact Or.inl upd_same)
local macro_rules | `(tactic| walk_at "item") => `(tactic| first | exact rfl | exact atI_nat (j := 0) rfl | exact atI_nat (j := 1) rfl | exact atI_nat (j := 2) rfl | assumption)
local macro_rules | `(tactic| walk_at "rd") => `(tactic| repeat (first
  | ((with_reducible refine' go_var ?hv ?_); (case hv => exact rfl))
  | with_reducible refine' go_c ?_
  | with_reducible refine' go_op ?_
  | with_reducible refine' go_seq ?_
  | with_reducible refine' go_asg ?_
  | with_reducible refine' go_name ?_
  | with_reducible refine' go_cons ?_
  | with_reducible refine' go_nil ?_
  | with_reducible refine' go_cb ?_
  | with_reducible refine' go_call ?_
  | with_reducible refine' go_ifS ?_
  | with_reducible refine' go_test ?_
  | with_reducible refine' go_bl ?_
  | with_reducible refine' go_ret ?_
  | with_reducible refine' go_I0 ?_
  | ((with_reducible refine' go_I ?cc ?_); (case cc => walk_at "side"))
  | ((with_reducible refine' go_ixL ?hh ?hk ?_); (case hh => walk_at "heap"); (case hk => walk_at "item"))
  | ((with_reducible refine' go_ixT ?hh ?hk ?_); (case hh => walk_at "heap"); (case hk => walk_at "item"))
  | ((with_reducible refine' go_lenL ?hh ?_); (case hh => walk_at "heap"))
  | ((with_reducible refine' go_lenT ?hh ?_); (case hh => walk_at "heap"))
  | ((with_reducible refine' go_setL ?hh ?hk ?_); (case hh => walk_at "heap"); (case hk => walk_at "item"))
  | with_reducible refine' go_abs ?_
  | with_reducible refine' go_max ?_
  | with_reducible refine' go_min ?_
  | with_reducible refine' go_int ?_
  | with_reducible refine' go_intB ?_
  | (with_reducible refine' go_eq rfl ?_)
  | (with_reducible refine' go_ne rfl ?_)
  | with_reducible refine' go_isN ?_
  | with_reducible refine' go_notN ?_
  | with_reducible refine' go_if ?_
  | with_reducible refine' go_sub ?_
  | with_reducible refine' go_par ?_
  | with_reducible refine' go_sl ?_
  | with_reducible refine' go_part ?_
  | with_reducible refine' go_pint ?_
  | with_reducible refine' go_nopart ?_
  | ((with_reducible refine' go_lenL ?hh ?_); (case hh => walk_at "heap"))
  | ((with_reducible refine' go_lenT ?hh ?_); (case hh => walk_at "heap"))
  | ((with_reducible refine' go_lenS ?hh ?_); (case hh => assumption))
  | with_reducible refine' go_gcons ?_
  | with_reducible refine' go_gnil ?_
  | with_reducible refine' go_kw ?_
  | with_reducible refine' go_par2 ?_
  | with_reducible refine' go_next ?_
  | with_reducible refine' go_drop ?_
  | with_reducible refine' go_and ?_
  | with_reducible refine' go_or ?_
  | with_reducible refine' go_not ?_
  | with_reducible refine' go_B ?_
  | with_reducible refine' go_andV ?_
  | with_reducible refine' go_orV ?_
  | with_reducible refine' go_notV ?_
  | with_reducible refine' go_chain ?_
  | with_reducible refine' go_un ?_
  | with_reducible refine' go_U ?_
  | with_reducible refine' go_bm ?_
  | with_reducible refine' go_tup ?_
  | with_reducible refine' go_lst ?_
  | with_reducible refine' go_forR1 ?_
  | with_reducible refine' go_forR2 ?_
  | with_reducible refine' go_forL ?_
  | with_reducible refine' go_forT ?_
  | with_reducible refine' go_forE ?_
  | with_reducible refine' go_lcR1 ?_
  | with_reducible refine' go_lcL ?_
  | with_reducible refine' go_lcT ?_
  | ((with_reducible refine' go_tyL ?hh ?_); (case hh => walk_at "heap"))
  | ((with_reducible refine' go_new ?hz ?_); (case hz => exact Nat.le_of_ble_eq_true rfl))
  | (with_reducible refine' ⟨_, rfl, ?_⟩)
  ))
--MACEND
def isInt : PyData → Bool
  | .int _ => true
  | _ => false
def isNat : PyData → Bool
  | .int i => decide (0 ≤ i)
  | _ => false
def isBand : PyData → Bool
  | .tuple [.int a, .int b] => decide (0 ≤ a) && decide (0 ≤ b) && decide (a ≤ b)
  | _ => false
def isStage : PyData → Bool
  | .tuple (.str k :: d :: ds) => if k = "mix" then ds.isEmpty && isNat d else if k = "dial" then ds.isEmpty && isInt d else decide (k = "pass") && isBand (.tuple (d :: ds))
  | _ => false
def isRate : PyData → Bool
  | .none => true
  | .int i => decide (2 ≤ i)
  | _ => false
def isFrame : PyData → Bool
  | .tuple [.list ss, _] => decide (1 ≤ ss.length) && decide (ss.length ≤ 8)
  | _ => false
/-- a look at one thing -/
def spLook (f : PyData → Bool) : Sp := fun vs H Q _ => ∃ x d, vs = [x] ∧ Dq H x d ∧ ∀ H', Ex H H' → Q (.bl (f d)) H'
theorem look_go {f : PyData → Bool} {x : V} {d : PyData} {H : Hp} {Q : VK} {E : XK} (h : Dq H x d) (k : ∀ H', Ex H H' → Q (.bl (f d)) H') : spLook f ([x] ++ []) H Q E := ⟨x, d, rfl, h, k⟩
section
variable {P : Program} {w : World} {K : PySem.W.Frag} {mg : Str → Option Value} {base : Heap}
abbrev s_is_integer : Stmt := top 9
theorem sc_is_integer : FnScope ["value"] ["value"] (defScope s_is_integer) := ⟨rfl, rfl, rfl, by decide +kernel, rfl, by decide +kernel, by decide +kernel⟩
theorem ok_is_integer {f : Addr} {fd : FuncData} (F : Fun K "is_integer" "is_integer" s_is_integer f fd) (m_isinstance : mg "isinstance" = none) (m_int : mg "int" = none) (m_bool : mg "bool" = none) :
    FnOk P w K mg base CX0 1 f fd ["value"] (spLook isInt) := by
  refine F.ok sc_is_integer (fun vs H Q E h => ?_) (fun cdv A outer s H vs Q E hr h => ?_)
  · obtain ⟨x, d, rfl, _⟩ := h
    rfl
  · obtain ⟨x, d, rfl, hd, k⟩ := h
    refine ⟨_, (pss_one (ps_ret (pe_and (pe_callB call_isi rfl m_isinstance (by decide +kernel) (pa_cons (pv 0) (pa_cons (pe_bltn (v := .ty "int") (u := .type "int") rfl m_int (by decide +kernel) rfl) pa_nil))) (pe_one (pe_not (pe_callB call_isi rfl m_isinstance (by decide +kernel) (pa_cons (pv 0) (pa_cons (pe_bltn (v := .ty "bool") (u := .type "bool") rfl m_bool (by decide +kernel) rfl) pa_nil)))))))), ?_⟩
    walk_at "rd"
    refine go_isi hd (kit_int d) ?_
    walk_at "rd"
    have two : isInt d = !pBool d → rIsi K [x, .ty "bool"] H fun v H' => ∃ c, v = .bl c ∧ Q (.bl (!c)) H' := fun e =>
      go_isi hd (kit_bool d) ⟨_, rfl, by rw [← e]; exact k H (Ex.refl H)⟩
    cases d with
    | int i =>
      refine iteT ?_
      walk_at "rd"
      exact two rfl
    | bool b =>
      refine iteT ?_
      walk_at "rd"
      exact two rfl
    | none => exact iteF (k _ (Ex.refl _))
    | str y => exact iteF (k _ (Ex.refl _))
    | list ds => exact iteF (k _ (Ex.refl _))
    | tuple ds => exact iteF (k _ (Ex.refl _))
    | dict ds => exact iteF (k _ (Ex.refl _))
abbrev s_is_natural : Stmt := top 10
theorem sc_is_natural : FnScope ["value"] ["value"] (defScope s_is_natural) := ⟨rfl, rfl, rfl, by decide +kernel, rfl, by decide +kernel, by decide +kernel⟩
theorem ok_is_natural {f : Addr} {fd : FuncData} (F : Fun K "is_natural" "is_natural" s_is_natural f fd) (h_is_integer : Has P w K mg base 1 "is_integer" (spLook isInt)) :
    FnOk P w K mg base CX0 2 f fd ["value"] (spLook isNat) := by
  refine F.ok sc_is_natural (fun vs H Q E h => ?_) (fun cdv A outer s H vs Q E hr h => ?_)
  · obtain ⟨x, d, rfl, _⟩ := h
    rfl
  · obtain ⟨x, d, rfl, hd, k⟩ := h
    refine ⟨_, (pss_one (ps_ret (pe_and (pe_hs h_is_integer hr rfl (pa_cons (pv 0) pa_nil)) (pe_one (pe_cmpR op_ge (pv 0) pe_int (nomark _)))))), ?_⟩
    walk_at "rd"
    refine look_go hd fun H1 e1 => ?_
    walk_at "rd"
    cases d with
    | int i =>
      cases hd
      refine iteT ?_
      walk_at "rd"
      exact k _ e1
    | bool b => exact iteF (k _ e1)
    | none => exact iteF (k _ e1)
    | str y => exact iteF (k _ e1)
    | list ds => exact iteF (k _ e1)
    | tuple ds => exact iteF (k _ e1)
    | dict ds => exact iteF (k _ e1)
theorem nat_int {d : PyData} (h : isNat d = true) : ∃ i : Int, d = .int i ∧ 0 ≤ i := by
  cases d <;> simp [isNat] at h
  exact ⟨_, rfl, h⟩
theorem dqa2 {H : Hp} {vs : List V} {ds : List PyData} (h : DqAll H vs ds) (hl : ds.length = 2) : ∃ a b d e, vs = [a, b] ∧ ds = [d, e] ∧ Dq H a d ∧ Dq H b e := by
  cases h with
  | nil => simp at hl
  | cons h1 h2 => cases h2 with
    | nil => simp at hl
    | cons h3 h4 => cases h4 with
      | nil => exact ⟨_, _, _, _, rfl, rfl, h1, h3⟩
      | cons _ _ => simp at hl
abbrev s_is_band : Stmt := top 11
theorem sc_is_band : FnScope ["value", "least", "greatest"] ["value"] (defScope s_is_band) := ⟨rfl, rfl, rfl, by decide +kernel, rfl, by decide +kernel, by decide +kernel⟩
theorem ok_is_band {f : Addr} {fd : FuncData} (F : Fun K "is_band" "is_band" s_is_band f fd) (m_isinstance : mg "isinstance" = none) (m_tuple : mg "tuple" = none) (m_len : mg "len" = none) (h_is_natural : Has P w K mg base 2 "is_natural" (spLook isNat)) :
    FnOk P w K mg base CX0 3 f fd ["value"] (spLook isBand) := by
  refine F.ok sc_is_band (fun vs H Q E h => ?_) (fun cdv A outer s H vs Q E hr h => ?_)
  · obtain ⟨x, d, rfl, _⟩ := h
    rfl
  · obtain ⟨x, d, rfl, hd, k⟩ := h
    refine ⟨_, (pss_cons (ps_if (PW.pt (pw_or (pt_not (pt_val (pe_callB call_isi rfl m_isinstance (by decide +kernel) (pa_cons (pv 0) (pa_cons (pe_bltn (v := .ty "tuple") (u := .type "tuple") rfl m_tuple (by decide +kernel) rfl) pa_nil))))) (pw_or1 (pt_cmpR op_ne (pe_callB call_lenQ rfl m_len PySem.boot_len (pa_cons (pv 0) pa_nil)) pe_int (nomark _)))))
  (pss_one (ps_ret pe_bl))
  pss_nil)
  (pss_cons (ps_asg (pv 0) (pg_tup (by rfl) (pgs_cons (pg_name (i := 1) sc_is_band.nd rfl (Or.inl rfl)) (pgs_cons (pg_name (i := 2) sc_is_band.nd rfl (Or.inl rfl)) pgs_nil))))
  (pss_one (ps_ret (pe_and (pe_hs h_is_natural hr rfl (pa_cons (pv 1) pa_nil)) (pe_and (pe_hs h_is_natural hr rfl (pa_cons (pv 2) pa_nil)) (pe_one (pe_cmpR op_le (pv 1) (pv 2) (nomark _))))))))), ?_⟩
    walk_at "rd"
    refine go_isi hd (kit_tuple d) ?_
    walk_at "rd"
    rcases tuple_or d with ⟨ds, rfl⟩ | hn
    · obtain ⟨a, xs, rfl, ha, hda⟩ := hd.tupleAt
      have hl := hda.len
      refine iteF ?_
      walk_at "rd"
      by_cases h2 : ds.length = 2
      · obtain ⟨b, c, d, e, rfl, rfl, hb, hc⟩ := dqa2 hda h2
        refine iteNS rfl ?_
        walk_at "rd"
        refine go_gtup (.inl ha) rfl ?_
        walk_at "rd"
        refine look_go hb fun H1 e1 => ?_
        walk_at "rd"
        cases hd1 : isNat d with
        | false =>
          refine iteF ?_
          have e : isBand (.tuple [d, e]) = false := by
            cases d <;> cases e <;> simp [isBand, isNat] at *
            omega
          rw [← e]
          exact k _ e1
        | true =>
          obtain ⟨i, rfl, hi⟩ := nat_int hd1
          refine iteT ?_
          walk_at "rd"
          refine look_go (hc.ex e1) fun H2 e2 => ?_
          walk_at "rd"
          cases hd2 : isNat e with
          | false =>
            refine iteF ?_
            have e : isBand (.tuple [.int i, e]) = false := by
              cases e <;> simp [isBand, isNat] at *
              omega
            rw [← e]
            exact k _ (e1.trans e2)
          | true =>
            obtain ⟨j, rfl, hj⟩ := nat_int hd2
            cases hb
            cases hc
            refine iteT ?_
            walk_at "rd"
            have e : isBand (.tuple [.int i, .int j]) = decide (i ≤ j) := by simp [isBand, hi, hj]
            rw [← e]
            exact k _ (e1.trans e2)
      · have hne : (!decide (V.int (xs.length : Int) = V.int 2)) = true := by
          simp
          omega
        rw [hne]
        refine iteT ?_
        walk_at "rd"
        have e : isBand (.tuple ds) = false := by
          match ds, h2 with
          | [], _ => rfl
          | [x], _ => cases x <;> rfl
          | [_, _], h => exact absurd rfl h
          | x :: y :: _ :: _, _ => cases x <;> first | rfl | (cases y <;> rfl)
        rw [← e]
        exact k _ (Ex.refl _)
    · rw [hn]
      refine iteT (iteT ?_)
      walk_at "rd"
      have e : isBand d = false := by cases d <;> first | rfl | simp [pTuple] at hn
      rw [← e]
      exact k _ (Ex.refl _)
abbrev s_is_rate : Stmt := top 12
theorem sc_is_rate : FnScope ["value"] ["value"] (defScope s_is_rate) := ⟨rfl, rfl, rfl, by decide +kernel, rfl, by decide +kernel, by decide +kernel⟩
theorem ok_is_rate {f : Addr} {fd : FuncData} {t : Tok} (F : Fun K "is_rate" "is_rate" s_is_rate f fd) (g_LEAST_RATE : mg "LEAST_RATE" = some (.int 2 t)) (h_is_integer : Has P w K mg base 1 "is_integer" (spLook isInt)) :
    FnOk P w K mg base CX0 2 f fd ["value"] (spLook isRate) := by
  refine F.ok sc_is_rate (fun vs H Q E h => ?_) (fun cdv A outer s H vs Q E hr h => ?_)
  · obtain ⟨x, d, rfl, _⟩ := h
    rfl
  · obtain ⟨x, d, rfl, hd, k⟩ := h
    refine ⟨_, (pss_one (ps_ret (pe_or (pe_cmpR op_isN1 (pv 0) pe_non (nomark _)) (pe_one (pe_and (pe_hs h_is_integer hr rfl (pa_cons (pv 0) pa_nil)) (pe_one (pe_cmpR op_ge (pv 0) (pe_glob (v := .int 2) rfl g_LEAST_RATE ⟨_, rfl⟩) (nomark _)))))))), ?_⟩
    walk_at "rd"
    cases hd with
    | non => exact iteT (k _ (Ex.refl _))
    | int i =>
      refine iteF ?_
      walk_at "rd"
      refine look_go (.int i) fun H1 e1 => ?_
      walk_at "rd"
      refine iteT ?_
      walk_at "rd"
      exact k _ e1
    | bl b =>
      refine iteF ?_
      walk_at "rd"
      refine look_go (.bl b) fun H1 e1 => ?_
      walk_at "rd"
      exact iteF (k _ e1)
    | str b =>
      refine iteF ?_
      walk_at "rd"
      refine look_go (.str b) fun H1 e1 => ?_
      walk_at "rd"
      exact iteF (k _ e1)
    | lst h1 h2 =>
      refine iteF ?_
      walk_at "rd"
      refine look_go (.lst h1 h2) fun H1 e1 => ?_
      walk_at "rd"
      exact iteF (k _ e1)
    | tup h1 h2 =>
      refine iteF ?_
      walk_at "rd"
      refine look_go (.tup h1 h2) fun H1 e1 => ?_
      walk_at "rd"
      exact iteF (k _ e1)
    | dic h1 =>
      refine iteF ?_
      walk_at "rd"
      refine look_go (.dic h1) fun H1 e1 => ?_
      walk_at "rd"
      exact iteF (k _ e1)
def spCheck (f : PyData → Bool) : Sp := fun vs H Q _ => ∃ x d, vs = [x] ∧ Dq H x d ∧ f d = true ∧ ∀ H', Ex H H' → Q .non H'
theorem check_go {f : PyData → Bool} {x : V} {d : PyData} {H : Hp} {Q : VK} {E : XK} (h : Dq H x d) (hf : f d = true) (k : ∀ H', Ex H H' → Q .non H') : spCheck f ([x] ++ []) H Q E := ⟨x, d, rfl, h, hf, k⟩
end
end Kx

set_option Elab.async false
set_option linter.all false
set_option maxRecDepth 100000
set_option maxHeartbeats 2000000
namespace Kx
open PySem PySem.Spec PyProof.Rows L2 HX TL
/-! ### words, as lists of code points -/
theorem le_line {n : Nat} (h : n ≤ 16000000) : n ≤ sizeLine := by rw [sizeLine_eq]; omega
theorem str_dash : (("-" : String) : Str) = ⟨#[45]⟩ := by decide +kernel
theorem str_slash : (("/" : String) : Str) = ⟨#[47]⟩ := by decide +kernel
theorem tl_cut1 (z : Str) : tl (L2.cutS z (some 1) none) = (tl z).drop 1 := by
  have hz := len_tl z
  show ((tl z).drop (HT.sIx z.length 0 (some 1))).take (HT.sIx z.length z.length none - HT.sIx z.length 0 (some 1)) = _
  have e1 : HT.sIx z.length z.length none = z.length := by simp [HT.sIx]
  rw [e1]
  by_cases h : 1 ≤ z.length
  · have e : HT.sIx z.length 0 (some 1) = 1 := by simp [HT.sIx]; omega
    rw [e]
    exact List.take_of_length_le (by rw [List.length_drop]; omega)
  · have e0 : tl z = [] := List.length_eq_zero_iff.mp (by omega)
    rw [e0]; simp
theorem tl_cut0 (z : Str) : tl (L2.cutS z none (some 1)) = (tl z).take 1 := by
  have hz := len_tl z
  show ((tl z).drop (HT.sIx z.length 0 none)).take (HT.sIx z.length z.length (some 1) - HT.sIx z.length 0 none) = _
  have e1 : HT.sIx z.length 0 none = 0 := by simp [HT.sIx]
  rw [e1, List.drop_zero]
  by_cases h : 1 ≤ z.length
  · have e : HT.sIx z.length z.length (some 1) = 1 := by simp [HT.sIx]; omega
    rw [e]
  · have e0 : tl z = [] := List.length_eq_zero_iff.mp (by omega)
    rw [e0]; simp
theorem starts1 (w : Str) (c : Nat) : Txt.startswith w ⟨#[c]⟩ = decide ((tl w).head? = some c) := by
  have hl := len_tl w
  unfold Txt.startswith
  rw [PySem.StrLaws.subAt_eq]
  show (decide (0 + 1 ≤ w.length) && (((tl w).drop 0).take 1 == [c])) = _
  cases h : tl w with
  | nil => rw [h] at hl; simp at hl; simp
  | cons d r =>
    rw [h] at hl
    simp at hl
    simp [hl]
    by_cases e : d = c <;> simp [e]
/-- the digits -/
def isDig (c : Nat) : Bool := decide (c ∈ tl (("0123456789" : String) : Str))
theorem isDig_iff (c : Nat) : isDig c = true ↔ 48 ≤ c ∧ c ≤ 57 := by
  have e : tl (("0123456789" : String) : Str) = [48, 49, 50, 51, 52, 53, 54, 55, 56, 57] := by decide +kernel
  unfold isDig
  rw [e, decide_eq_true_eq]
  simp only [List.mem_cons, List.not_mem_nil, or_false]
  omega
theorem all_dig {l : List Nat} (h : l.all isDig = true) : NumText.AllDigits l := fun c hc => (isDig_iff c).mp (List.all_eq_true.mp h c hc)
theorem dig_all {l : List Nat} (h : NumText.AllDigits l) : l.all isDig = true := List.all_eq_true.mpr fun c hc => (isDig_iff c).mpr (h c hc)
def neg (w : List Nat) : Bool := decide (w.head? = some 45)
def digs (w : List Nat) : List Nat := if neg w then w.drop 1 else w
def shaped (d : List Nat) : Bool := decide (1 ≤ d.length ∧ d.length ≤ 30) && d.all isDig
/-- a number as it is written -/
def readN (w : List Nat) : Option Int :=
  if shaped (digs w) then (if (digs w).head? = some 48 ∧ w ≠ [48] then none else some (if neg w then -((NumText.digitsVal (digs w) : Nat) : Int) else ((NumText.digitsVal (digs w) : Nat) : Int))) else none
def natN (w : List Nat) : Option Int := if neg w then none else readN w
theorem int_read {w : Str} (h : shaped (digs (tl w)) = true) : PySem.intText? w = some (if neg (tl w) then -((NumText.digitsVal (digs (tl w)) : Nat) : Int) else ((NumText.digitsVal (digs (tl w)) : Nat) : Int)) ∧ w.length ≤ 640 := by
  have hl := len_tl w
  unfold shaped at h
  rw [Bool.and_eq_true, decide_eq_true_eq] at h
  obtain ⟨⟨h1, h30⟩, h2⟩ := h
  have hd := all_dig h2
  have hne : digs (tl w) ≠ [] := fun z => by rw [z] at h1; simp at h1
  cases hn : neg (tl w) with
  | true =>
    have ed : digs (tl w) = (tl w).drop 1 := by unfold digs; rw [hn]; rfl
    rw [ed] at h1 h30 hd hne ⊢
    rw [if_pos rfl]
    cases e : tl w with
    | nil => rw [e] at h1; simp at h1
    | cons c cs =>
      rw [e] at h1 h30 hd hn hl hne
      simp only [List.drop_succ_cons, List.drop_zero, List.length_cons] at h1 h30 hd hl hne ⊢
      have ec : c = 45 := by simpa [neg] using hn
      subst ec
      exact ⟨intText_neg e hd hne (by omega), by omega⟩
  | false =>
    have ed : digs (tl w) = tl w := by unfold digs; rw [hn]; rfl
    rw [ed] at h1 h30 hd hne ⊢
    simp only [Bool.false_eq_true, if_false]
    exact ⟨intText_digits hd hne (by omega), by omega⟩
/-- a band as it is written -/
def bandN (w : List Nat) : Option (Int × Int) := match par [46, 46] [] w with
  | none => none
  | some (a, b) => match natN a, natN b with
    | some x, some y => if x ≤ y then some (x, y) else none
    | _, _ => none
theorem band_part (x : Str) : bandN (tl x) = (match natN (tl (Txt.partition x (Str.ofString "..")).1), natN (tl (Txt.partition x (Str.ofString "..")).2.2) with
    | some a, some b => if a ≤ b then some (a, b) else none
    | _, _ => none) := by
  have e : tl (Str.ofString "..") = [46, 46] := by decide +kernel
  rw [partition_par x _ (by rw [e]; simp), e]
  unfold bandN
  cases h : par [46, 46] [] (tl x) with
  | none =>
    show none = (match natN (tl x), natN (tl Str.empty) with | some a, some b => if a ≤ b then some (a, b) else none | _, _ => none)
    have : natN (tl Str.empty) = none := by decide +kernel
    rw [this]
    cases natN (tl x) <;> rfl
  | some p =>
    obtain ⟨a, b⟩ := p
    rfl
theorem natN_nil : natN [] = none := by decide
theorem natN_nonneg {w : List Nat} {x : Int} (h : natN w = some x) : 0 ≤ x := by
  unfold natN readN at h
  cases hn : neg w with
  | true => rw [hn] at h; simp at h
  | false =>
    rw [hn] at h
    simp only [Bool.false_eq_true, if_false] at h
    split at h
    · split at h
      · cases h
      · cases h; omega
    · cases h
theorem str_eq (a b : Str) : decide (V.str a = V.str b) = decide (tl a = tl b) := by
  by_cases h : a = b
  · subst h; simp
  · rw [decide_eq_false (fun z => h (V.str.inj z)), decide_eq_false (fun z => h (ext_tl z))]
theorem tl_1 (c : Nat) : tl (⟨#[c]⟩ : Str) = [c] := rfl
theorem tl_0 : tl (("0" : String) : Str) = [48] := by decide +kernel
theorem at0 {α : Type} (x : α) (l : List α) : atI (x :: l) 0 = some x := atI_nat (j := 0) rfl
end Kx

set_option Elab.async false
set_option linter.all false
set_option maxRecDepth 100000
set_option maxHeartbeats 2000000

namespace Kx
open PySem PySem.Spec PyProof.Rows L2 HX TL
open Evl (Ex)
local macro_rules | `(tactic| walk_at "len") => `(tactic| first | assumption | exact le_line (by assumption) | exact le_line (by omega) | exact le_line (Nat.le_trans (cutS_length _ _ _) (by omega)) | (rw [sizeLine_eq]; omega))
local macro_rules | `(tactic| walk_at "side") => `(tactic| first | assumption | ((try dsimp only); first | assumption | decide +kernel | omega | exact ⟨by decide, by decide⟩ | (left; decide) | (left; omega) | (refine Or.inl ⟨?_, ?_⟩ <;> omega) | (refine Or.inr ⟨?_, ?_⟩ <;> omega)))
local macro_rules | `(tactic| walk_at "heap") => `(tactic| first | assumption | exact upd_same | exact Or.inl (by assumption) | exact Or.inl upd_same)
local macro_rules | `(tactic| walk_at "item") => `(tactic| first | exact rfl | exact atI_nat (j := 0) rfl | exact atI_nat (j := 1) rfl | exact atI_nat (j := 2) rfl | assumption)
local macro_rules | `(tactic| walk_at "rd") => `(tactic| repeat (first
  | ((with_reducible refine' go_var ?hv ?_); (case hv => exact rfl))
  | with_reducible refine' go_c ?_
  | with_reducible refine' go_op ?_
  | with_reducible refine' go_seq ?_
  | with_reducible refine' go_asg ?_
  | with_reducible refine' go_name ?_
  | with_reducible refine' go_cons ?_
  | with_reducible refine' go_nil ?_
  | with_reducible refine' go_cb ?_
  | with_reducible refine' go_call ?_
  | with_reducible refine' go_ifS ?_
  | with_reducible refine' go_test ?_
  | with_reducible refine' go_bl ?_
  | with_reducible refine' go_ret ?_
  | with_reducible refine' go_I0 ?_
  | ((with_reducible refine' go_I ?cc ?_); (case cc => walk_at "side"))
  | ((with_reducible refine' go_ixL ?hh ?hk ?_); (case hh => walk_at "heap"); (case hk => walk_at "item"))
  | ((with_reducible refine' go_ixT ?hh ?hk ?_); (case hh => walk_at "heap"); (case hk => walk_at "item"))
  | ((with_reducible refine' go_lenL ?hh ?_); (case hh => walk_at "heap"))
  | ((with_reducible refine' go_lenT ?hh ?_); (case hh => walk_at "heap"))
  | ((with_reducible refine' go_setL ?hh ?hk ?_); (case hh => walk_at "heap"); (case hk => walk_at "item"))
  | with_reducible refine' go_abs ?_
  | with_reducible refine' go_max ?_
  | with_reducible refine' go_min ?_
  | with_reducible refine' go_int ?_
  | with_reducible refine' go_intB ?_
  | (with_reducible refine' go_eq rfl ?_)
  | (with_reducible refine' go_ne rfl ?_)
  | with_reducible refine' go_isN ?_
  | with_reducible refine' go_notN ?_
  | with_reducible refine' go_if ?_
  | with_reducible refine' go_sub ?_
  | with_reducible refine' go_par ?_
  | with_reducible refine' go_sl ?_
  | with_reducible refine' go_part ?_
  | with_reducible refine' go_pint ?_
  | with_reducible refine' go_nopart ?_
  | ((with_reducible refine' go_lenL ?hh ?_); (case hh => walk_at "heap"))
  | ((with_reducible refine' go_lenT ?hh ?_); (case hh => walk_at "heap"))
  | ((with_reducible refine' go_lenS ?hh ?_); (case hh => assumption))
  | with_reducible refine' go_gcons ?_
  | with_reducible refine' go_gnil ?_
  | with_reducible refine' go_kw ?_
  | with_reducible refine' go_par2 ?_
  | with_reducible refine' go_next ?_
  | with_reducible refine' go_drop ?_
  | with_reducible refine' go_and ?_
  | with_reducible refine' go_or ?_
  | with_reducible refine' go_not ?_
  | with_reducible refine' go_B ?_
  | with_reducible refine' go_andV ?_
  | with_reducible refine' go_orV ?_
  | with_reducible refine' go_notV ?_
  | with_reducible refine' go_chain ?_
  | with_reducible refine' go_un ?_
  | with_reducible refine' go_U ?_
  | with_reducible refine' go_bm ?_
  | with_reducible refine' go_tup ?_
  | with_reducible refine' go_lst ?_
  | with_reducible refine' go_forR1 ?_
  | with_reducible refine' go_forR2 ?_
  | with_reducible refine' go_forL ?_
  | with_reducible refine' go_forT ?_
  | with_reducible refine' go_forE ?_
  | with_reducible refine' go_lcR1 ?_
  | with_reducible refine' go_lcL ?_
  | with_reducible refine' go_lcT ?_
  | ((with_reducible refine' go_tyL ?hh ?_); (case hh => walk_at "heap"))
  | ((with_reducible refine' go_new ?hz ?_); (case hz => exact Nat.le_of_ble_eq_true rfl))
  | with_reducible refine' go_par3 ?_
  | with_reducible refine' go_three ?_
  | with_reducible refine' go_m1 ?_
  | with_reducible refine' go_isS ?_
  | with_reducible refine' go_rSw ?_
  | with_reducible refine' go_rFnd ?_
  | ((with_reducible refine' go_rPrt (by decide +kernel) ?hz ?_); (case hz => walk_at "len"))
  | ((with_reducible refine' go_rSpl (by decide +kernel) ?hz ?_); (case hz => walk_at "len"))
  | ((with_reducible refine' go_rLenS ?hz ?_); (case hz => walk_at "len"))
  | ((with_reducible refine' go_slS ?hz ?_); (case hz => walk_at "len"))
  | with_reducible refine' go_sgn ?_
  | with_reducible refine' go_nsg ?_
  | with_reducible refine' go_lcS ?_
  | (with_reducible refine' ⟨_, rfl, ?_⟩)
  ))
--MACEND
theorem go_yes {σ : L2.St} {H : Hp} {QT : Bool → Hp → Prop} (h : QT true H) : tYes σ H QT := h
def optV : Option Int → V
  | none => .non
  | some n => .int n
def optD : Option Int → PyData
  | none => .none
  | some n => .int n
theorem dq_opt (H : Hp) : ∀ a : Option Int, Dq H (optV a) (optD a)
  | none => .non
  | some n => .int n
def spNum (g : List Nat → Option Int) : Sp := fun vs H Q _ => ∃ w : Str, vs = [.str w] ∧ w.length ≤ 16000000 ∧ ∀ H', Ex H H' → Q (optV (g (tl w))) H'
def bandD : Int × Int → PyData := fun b => .tuple [.int b.1, .int b.2]
def spBandN : Sp := fun vs H Q _ => ∃ w : Str, vs = [.str w] ∧ w.length ≤ 16000000 ∧ (bandN (tl w) = none → ∀ H', Ex H H' → Q .non H') ∧ ∀ b, bandN (tl w) = some b → ∀ p H', Ex H H' → H' p = some (.tup [.int b.1, .int b.2]) → Q (.ref p) H'
section
variable {P : Program} {w : World} {K : PySem.W.Frag} {mg : Str → Option Value} {base : Heap} {tD tM : Tok}
abbrev s_read_number : Stmt := top 16
theorem sc_read_number : FnScope ["word", "digits", "sign"] ["word"] (defScope s_read_number) := ⟨rfl, rfl, rfl, by decide +kernel, rfl, by decide +kernel, by decide +kernel⟩
theorem ok_read_number {f : Addr} {fd : FuncData} (F : Fun K "read_number" "read_number" s_read_number f fd) (m_len : mg "len" = none) (m_all : mg "all" = none) (m_int : mg "int" = none)
    (g_DIGITS : mg "DIGITS" = some (.str "0123456789" tD)) (g_MOST_DIGITS : mg "MOST_DIGITS" = some (.int 30 tM)) : FnOk P w K mg base CX0 1 f fd ["word"] (spNum readN) := by
  refine F.ok sc_read_number (fun vs H Q E h => ?_) (fun cdv A outer s H vs Q E hr h => ?_)
  · obtain ⟨x, rfl, _⟩ := h
    rfl
  · obtain ⟨x, rfl, hx, k⟩ := h
    refine ⟨_, (pss_cons (ps_set (i := 1) sc_read_number.nd rfl (Or.inl rfl) (pe_ifExp (pt_val (pe_m1 PySem.F.slot_str_startswith PySem.F.type_str_startswith mt_sw (pv 0) pe_str)) (pe_slice sl_str (pv 0) (po_some pe_int) po_none) (pv 0)))
  (pss_cons (ps_if (PW.pt (pw_or (pt_not (pt_chain op_le op_le pe_int (pe_callB call_lenS rfl m_len PySem.boot_len (pa_cons (pv 1) pa_nil)) (pe_glob (v := .int 30) rfl g_MOST_DIGITS ⟨_, rfl⟩))) (pw_or1 (pt_not (pt_val (pe_callB (call_allB rfl) rfl m_all (by decide +kernel) (pa_cons (pe_lc (own := [("sign", 2)]) (g := gName 2) (by rfl) (sc_read_number).nd (pi_str (pv 1)) (blkOk_by (own := [("sign", 2)]) (N := ["word", "digits", "sign"]) (sc := defScope s_read_number) (by decide +kernel)) (fun _ _ _ _ _ => pg_name (i := 2) (sc_read_number).nd rfl (Or.inl rfl)) (fun _ _ _ _ _ => pts_nil) (fun _ _ _ _ _ => (pe_cmpR op_sgn (pv 2) (pe_glob (v := .str "0123456789") rfl g_DIGITS ⟨_, rfl⟩) (by with_unfolding_all rfl)))) pa_nil)))))))
  (pss_one (ps_ret pe_non))
  pss_nil)
  (pss_cons (ps_if (PW.pt (pw_and (pt_cmpR op_eq (pe_ix ix_str (pv 1) pe_int (fun _ _ => rfl)) pe_str (nomark _)) (pw_and1 (pt_cmpR op_ne (pv 0) pe_str (nomark _)))))
  (pss_one (ps_ret pe_non))
  pss_nil)
  (pss_one (ps_ret (pe_callTy call_intS rfl m_int boot_int (pa_cons (pv 0) pa_nil))))))), ?_⟩
    refine go_seq ?_
    refine go_asg ?_
    refine cut_e (te := tIf _ _ _) (fun v H' => ∃ d : Str, v = .str d ∧ H' = H ∧ tl d = digs (tl x) ∧ d.length ≤ 16000000) (fun Q' q => ?_) ?_
    · walk_at "rd"
      rw [str_dash, starts1]
      refine ite2 (fun c => ?_) (fun c => ?_)
      · walk_at "rd"
        exact q _ _ ⟨_, rfl, rfl, by rw [tl_cut1]; unfold digs neg; rw [if_pos c], Nat.le_trans (cutS_length _ _ _) hx⟩
      · walk_at "rd"
        exact q _ _ ⟨x, rfl, rfl, by unfold digs neg; rw [if_neg c], hx⟩
    · rintro v H' ⟨d, rfl, rfl, hd, hdl⟩
      have hld := len_tl d
      have hlen := len_tl d
      rw [hd] at hlen
      have none_ : shaped (digs (tl x)) = false → ∀ H'', Ex H' H'' → Q .non H'' := fun e H'' e' => by
        have := k H'' e'
        unfold readN at this
        rw [e] at this
        exact this
      walk_at "rd"
      refine ite2 (fun c1 => ?_) (fun c1 => ?_)
      · have h1 : 1 ≤ (digs (tl x)).length := by have := of_decide_eq_true c1; omega
        walk_at "rd"
        refine ite2 (fun c2 => ?_) (fun c2 => ?_)
        · have h30 : ¬ (digs (tl x)).length ≤ 30 := by simp at c2; omega
          refine iteT ?_
          walk_at "rd"
          exact none_ (by unfold shaped; rw [decide_eq_false (fun z => h30 z.2)]; rfl) _ (Ex.refl _)
        · have h30 : (digs (tl x)).length ≤ 30 := by simp at c2; omega
          walk_at "rd"
          refine run_lcS (fun D i G => H' D = none ∧ Ex H' G ∧ G D = some (.lst (((tl d).take i).map fun c => V.bl (isDig c)))) ?_ ?_ ?_
          · intro D hD
            exact ⟨hD, Ex.new hD, upd_same⟩
          · rintro D i c G hc ⟨hD, e, hG⟩
            walk_at "rd"
            refine ⟨rfl, ?_⟩
            refine go_yes ?_
            refine iteT ?_
            walk_at "rd"
            refine ⟨_, hG, ?_, hD, Ex.mut e hD, ?_⟩
            · rw [List.length_map, List.length_take, sizeLine_eq]; omega
            · rw [List.take_succ, hc, List.map_append]
              exact upd_same
          · rintro D G hD ⟨_, e, hG⟩
            rw [List.take_length] at hG
            walk_at "rd"
            refine go_rAllB (bs := (tl d).map isDig) (.inl (by rw [hG, List.map_map]; rfl)) ?_
            rw [List.all_map, show (id ∘ isDig) = isDig from rfl, hd]
            walk_at "rd"
            refine ite2 (fun c3 => ?_) (fun c3 => ?_)
            · walk_at "rd"
              exact none_ (by unfold shaped; rw [show (digs (tl x)).all isDig = false from by simpa using c3, Bool.and_false]) _ e
            · have h3 : (digs (tl x)).all isDig = true := by simpa using c3
              have sh : shaped (digs (tl x)) = true := by unfold shaped; rw [h3, decide_eq_true ⟨h1, h30⟩]; rfl
              obtain ⟨hi, h640⟩ := int_read sh
              have kk := k G e
              unfold readN at kk
              rw [sh, if_pos rfl] at kk
              walk_at "rd"
              obtain ⟨c0, r0, e0⟩ : ∃ c r, digs (tl x) = c :: r := by
                cases q : digs (tl x) with
                | nil => rw [q] at h1; simp at h1
                | cons c r => exact ⟨c, r, rfl⟩
              refine go_ixS (le_line hdl) (c := c0) (by rw [show d.cps.toList = c0 :: r0 from hd.trans e0]; exact at0 _ _) ?_
              walk_at "rd"
              have last : ¬ ((digs (tl x)).head? = some 48 ∧ tl x ≠ [48]) → Q (.int (if neg (tl x) = true then -((NumText.digitsVal (digs (tl x)) : Nat) : Int) else ((NumText.digitsVal (digs (tl x)) : Nat) : Int))) G := fun n => by
                rw [if_neg n] at kk
                exact kk
              refine ite2 (fun c4 => ?_) (fun c4 => ?_)
              · rw [str_eq, tl_1, tl_0] at c4
                have e48 : c0 = 48 := by simpa using c4
                walk_at "rd"
                rw [str_eq, tl_0]
                refine ite2 (fun c5 => ?_) (fun c5 => ?_)
                · walk_at "rd"
                  rw [if_pos ⟨by rw [e0, e48]; rfl, by simpa using c5⟩] at kk
                  exact kk
                · walk_at "rd"
                  refine go_rIntS hi h640 ?_
                  exact last (fun z => c5 (by simpa using z.2))
              · rw [str_eq, tl_1, tl_0] at c4
                refine iteF ?_
                walk_at "rd"
                refine go_rIntS hi h640 ?_
                exact last (fun z => c4 (by rw [e0] at z; simpa using z.1))
      · have h1 : ¬ 1 ≤ (digs (tl x)).length := fun z => c1 (by simp; omega)
        walk_at "rd"
        refine iteT ?_
        refine iteT ?_
        walk_at "rd"
        exact none_ (by unfold shaped; rw [decide_eq_false (fun z => h1 z.1)]; rfl) _ (Ex.refl _)
abbrev s_read_natural : Stmt := top 17
theorem sc_read_natural : FnScope ["word"] ["word"] (defScope s_read_natural) := ⟨rfl, rfl, rfl, by decide +kernel, rfl, by decide +kernel, by decide +kernel⟩
theorem ok_read_natural {f : Addr} {fd : FuncData} (F : Fun K "read_natural" "read_natural" s_read_natural f fd) (h_read_number : Has P w K mg base 1 "read_number" (spNum readN)) : FnOk P w K mg base CX0 2 f fd ["word"] (spNum natN) := by
  refine F.ok sc_read_natural (fun vs H Q E h => ?_) (fun cdv A outer s H vs Q E hr h => ?_)
  · obtain ⟨x, rfl, _⟩ := h
    rfl
  · obtain ⟨x, rfl, hx, k⟩ := h
    refine ⟨_, (pss_one (ps_ret (pe_ifExp (pt_val (pe_m1 PySem.F.slot_str_startswith PySem.F.type_str_startswith mt_sw (pv 0) pe_str)) pe_non (pe_hs h_read_number hr rfl (pa_cons (pv 0) pa_nil))))), ?_⟩
    walk_at "rd"
    rw [str_dash, starts1]
    refine ite2 (fun c => ?_) (fun c => ?_)
    · have := k H (Ex.refl _)
      unfold natN neg at this
      rw [c, if_pos rfl] at this
      walk_at "rd"
      exact this
    · walk_at "rd"
      refine ⟨x, rfl, hx, fun H1 e1 => ?_⟩
      have := k H1 e1
      unfold natN neg at this
      rw [if_neg c] at this
      exact this
abbrev s_read_band : Stmt := top 18
theorem sc_read_band : FnScope ["word", "least", "_", "greatest", "band"] ["word"] (defScope s_read_band) := ⟨rfl, rfl, rfl, by decide +kernel, rfl, by decide +kernel, by decide +kernel⟩
theorem ok_read_band {f : Addr} {fd : FuncData} (F : Fun K "read_band" "read_band" s_read_band f fd) (h_read_natural : Has P w K mg base 2 "read_natural" (spNum natN)) (h_is_band : Has P w K mg base 3 "is_band" (spLook isBand)) : FnOk P w K mg base CX0 4 f fd ["word"] spBandN := by
  refine F.ok sc_read_band (fun vs H Q E h => ?_) (fun cdv A outer s H vs Q E hr h => ?_)
  · obtain ⟨x, rfl, _⟩ := h
    rfl
  · obtain ⟨x, rfl, hx, k0, k1⟩ := h
    refine ⟨_, (pss_cons (ps_asg (pe_m1 PySem.F.slot_str_partition PySem.F.type_str_partition mt_prt (pv 0) pe_str) (pg_tup (by rfl) (pgs_cons (pg_name (i := 1) sc_read_band.nd rfl (Or.inl rfl)) (pgs_cons (pg_name (i := 2) sc_read_band.nd rfl (Or.inl rfl)) (pgs_cons (pg_name (i := 3) sc_read_band.nd rfl (Or.inl rfl)) pgs_nil)))))
  (pss_cons (ps_set (i := 4) sc_read_band.nd rfl (Or.inl rfl) (pe_tup (pa_cons (pe_hs h_read_natural hr rfl (pa_cons (pv 1) pa_nil)) (pa_cons (pe_hs h_read_natural hr rfl (pa_cons (pv 3) pa_nil)) pa_nil))))
  (pss_one (ps_ret (pe_ifExp (pt_val (pe_hs h_is_band hr rfl (pa_cons (pv 4) pa_nil))) (pv 4) pe_non))))), ?_⟩
    walk_at "rd"
    intro p hp
    refine go_gtup (.inl (.inl upd_same)) rfl ?_
    walk_at "rd"
    have e0 := Ex.new (o := HO.tup [V.str (Txt.partition x (Str.ofString "..")).1, .str (Txt.partition x (Str.ofString "..")).2.1, .str (Txt.partition x (Str.ofString "..")).2.2]) hp
    obtain ⟨l1, _, l3⟩ := fact_partition x (Str.ofString "..")
    refine ⟨_, rfl, Nat.le_trans l1 hx, fun H1 e1 => ?_⟩
    walk_at "rd"
    refine ⟨_, rfl, Nat.le_trans l3 hx, fun H2 e2 => ?_⟩
    walk_at "rd"
    intro q hq
    walk_at "rd"
    generalize ea : natN (tl (Txt.partition x (Str.ofString "..")).1) = a at *
    generalize eb : natN (tl (Txt.partition x (Str.ofString "..")).2.2) = b at *
    have eB := band_part x
    rw [ea, eb] at eB
    have e3 := (e0.trans e1).trans e2
    have e4 := e3.trans (Ex.new (o := HO.tup [optV a, optV b]) hq)
    refine look_go (d := .tuple [optD a, optD b]) (.tup (.inl upd_same) (.cons (dq_opt _ a) (.cons (dq_opt _ b) .nil))) fun H3 e5 => ?_
    have e6 := e4.trans e5
    have hq3 := e5 _ _ (upd_same (H := H2) (a := q) (o := HO.tup [optV a, optV b]))
    walk_at "rd"
    cases a with
    | none =>
      refine ite2 (fun c => absurd c (by simp [isBand, optD, isNat])) (fun _ => ?_)
      walk_at "rd"
      exact k0 eB _ e6
    | some i =>
      cases b with
      | none =>
        refine ite2 (fun c => absurd c (by simp [isBand, optD, isNat])) (fun _ => ?_)
        walk_at "rd"
        exact k0 eB _ e6
      | some j =>
        have i0 := natN_nonneg ea
        have j0 := natN_nonneg eb
        dsimp only at eB
        refine ite2 (fun c => ?_) (fun c => ?_)
        · have hij : i ≤ j := by
            simp [isBand, optD, isNat] at c
            omega
          rw [if_pos hij] at eB
          walk_at "rd"
          exact k1 _ eB q H3 e6 hq3
        · have hij : ¬ i ≤ j := fun z => c (by simp [isBand, optD, isNat]; omega)
          rw [if_neg hij] at eB
          walk_at "rd"
          exact k0 eB _ e6
end
end Kx

set_option Elab.async false
set_option linter.all false
set_option maxRecDepth 100000
set_option maxHeartbeats 2000000

namespace Kx
open PySem PySem.Spec PyProof.Rows L2 HX TL
open Evl (Ex)
local macro_rules | `(tactic| walk_at "len") => `(tactic| first | assumption | exact le_line (by assumption) | exact le_line (by omega) | exact le_line (Nat.le_trans (cutS_length _ _ _) (by omega)) | (rw [sizeLine_eq]; omega))
local macro_rules | `(tactic| walk_at "side") => `(tactic| first | assumption | ((try dsimp only); first | assumption | decide +kernel | omega | exact ⟨by decide, by decide⟩ | (left; decide) | (left; omega) | (refine Or.inl ⟨?_, ?_⟩ <;> omega) | (refine Or.inr ⟨?_, ?_⟩ <;> omega)))
local macro_rules | `(tactic| walk_at "heap") => `(tactic| first | assumption | exact upd_same | exact Or.inl (by assumption) | exact Or.inl upd_same)
local macro_rules | `(tactic| walk_at "item") => `(tactic| first | exact rfl | exact atI_nat (j := 0) rfl | exact atI_nat (j := 1) rfl | exact atI_nat (j := 2) rfl | assumption)
local macro_rules | `(tactic| walk_at "rd") => `(tactic| repeat (first
  | ((with_reducible refine' go_var ?hv ?_); (case hv => exact rfl))
  | with_reducible refine' go_c ?_
  | with_reducible refine' go_op ?_
  | with_reducible refine' go_seq ?_
  | with_reducible refine' go_asg ?_
  | with_reducible refine' go_name ?_
  | with_reducible refine' go_cons ?_
  | with_reducible refine' go_nil ?_
  | with_reducible refine' go_cb ?_
  | with_reducible refine' go_call ?_
  | with_reducible refine' go_ifS ?_
  | with_reducible refine' go_test ?_
  | with_reducible refine' go_bl ?_
  | with_reducible refine' go_ret ?_
  | with_reducible refine' go_I0 ?_
  | ((with_reducible refine' go_I ?cc ?_); (case cc => walk_at "side"))
  | ((with_reducible refine' go_ixL ?hh ?hk ?_); (case hh => walk_at "heap"); (case hk => walk_at "item"))
  | ((with_reducible refine' go_ixT ?hh ?hk ?_); (case hh => walk_at "heap"); (case hk => walk_at "item"))
  | ((with_reducible refine' go_lenL ?hh ?_); (case hh => walk_at "heap"))
  | ((with_reducible refine' go_lenT ?hh ?_); (case hh => walk_at "heap"))
  | ((with_reducible refine' go_setL ?hh ?hk ?_); (case hh => walk_at "heap"); (case hk => walk_at "item"))
  | with_reducible refine' go_abs ?_
  | with_reducible refine' go_max ?_
  | with_reducible refine' go_min ?_
  | with_reducible refine' go_int ?_
  | with_reducible refine' go_intB ?_
  | (with_reducible refine' go_eq rfl ?_)
  | (with_reducible refine' go_ne rfl ?_)
  | with_reducible refine' go_isN ?_
  | with_reducible refine' go_notN ?_
  | with_reducible refine' go_if ?_
  | with_reducible refine' go_sub ?_
  | with_reducible refine' go_par ?_
  | with_reducible refine' go_sl ?_
  | with_reducible refine' go_part ?_
  | with_reducible refine' go_pint ?_
  | with_reducible refine' go_nopart ?_
  | ((with_reducible refine' go_lenL ?hh ?_); (case hh => walk_at "heap"))
  | ((with_reducible refine' go_lenT ?hh ?_); (case hh => walk_at "heap"))
  | ((with_reducible refine' go_lenS ?hh ?_); (case hh => assumption))
  | with_reducible refine' go_gcons ?_
  | with_reducible refine' go_gnil ?_
  | with_reducible refine' go_kw ?_
  | with_reducible refine' go_par2 ?_
  | with_reducible refine' go_next ?_
  | with_reducible refine' go_drop ?_
  | with_reducible refine' go_and ?_
  | with_reducible refine' go_or ?_
  | with_reducible refine' go_not ?_
  | with_reducible refine' go_B ?_
  | with_reducible refine' go_andV ?_
  | with_reducible refine' go_orV ?_
  | with_reducible refine' go_notV ?_
  | with_reducible refine' go_chain ?_
  | with_reducible refine' go_un ?_
  | with_reducible refine' go_U ?_
  | with_reducible refine' go_bm ?_
  | with_reducible refine' go_tup ?_
  | with_reducible refine' go_lst ?_
  | with_reducible refine' go_forR1 ?_
  | with_reducible refine' go_forR2 ?_
  | with_reducible refine' go_forL ?_
  | with_reducible refine' go_forT ?_
  | with_reducible refine' go_forE ?_
  | with_reducible refine' go_lcR1 ?_
  | with_reducible refine' go_lcL ?_
  | with_reducible refine' go_lcT ?_
  | ((with_reducible refine' go_tyL ?hh ?_); (case hh => walk_at "heap"))
  | ((with_reducible refine' go_new ?hz ?_); (case hz => exact Nat.le_of_ble_eq_true rfl))
  | with_reducible refine' go_par3 ?_
  | with_reducible refine' go_three ?_
  | with_reducible refine' go_m1 ?_
  | with_reducible refine' go_isS ?_
  | with_reducible refine' go_rSw ?_
  | with_reducible refine' go_rFnd ?_
  | ((with_reducible refine' go_rPrt (by decide +kernel) ?hz ?_); (case hz => walk_at "len"))
  | ((with_reducible refine' go_rSpl (by decide +kernel) ?hz ?_); (case hz => walk_at "len"))
  | ((with_reducible refine' go_rLenS ?hz ?_); (case hz => walk_at "len"))
  | ((with_reducible refine' go_slS ?hz ?_); (case hz => walk_at "len"))
  | with_reducible refine' go_sgn ?_
  | with_reducible refine' go_nsg ?_
  | with_reducible refine' go_lcS ?_
  | (with_reducible refine' ⟨_, rfl, ?_⟩)
  ))
--MACEND
/-- a stage as it is written -/
def stgN : List Nat → Option Stg
  | 112 :: r => (bandN r).map fun b => .pass b.1 b.2
  | 109 :: r => (natN r).map .mix
  | 100 :: r => (readN r).map .dial
  | _ => none
def ge2 : Option Int → Option Int
  | some i => if 2 ≤ i then some i else none
  | none => none
def rateN (w : List Nat) : Option Int := ge2 (if w.head? = some 47 then natN (w.drop 1) else none)
structure Lk where
  dial : Int
  band : Option (Int × Int)
def Lk.vals (l : Lk) : List V := match l.band with
  | none => [.int l.dial, .non, .non]
  | some b => [.int l.dial, .int b.1, .int b.2]
def Lk.d (l : Lk) : PyData := match l.band with
  | none => .tuple [.int l.dial, .none, .none]
  | some b => .tuple [.int l.dial, .int b.1, .int b.2]
def cutEq (w : List Nat) : List Nat × List Nat := match par [61] [] w with
  | some p => p
  | none => (w, [])
def lookN (w : List Nat) : Option Lk := match readN (cutEq w).1 with
  | none => none
  | some d => if (cutEq w).2 = [45] then some ⟨d, none⟩ else (bandN (cutEq w).2).map fun b => ⟨d, some b⟩
def spStgN : Sp := fun vs H Q _ => ∃ w : Str, vs = [.str w] ∧ w.length ≤ 16000000 ∧ (stgN (tl w) = none → ∀ H', Ex H H' → Q .non H') ∧ ∀ s, stgN (tl w) = some s → ∀ p H', Ex H H' → H p = none → H' p = some (.tup s.vals) → Q (.ref p) H'
def spLkN : Sp := fun vs H Q _ => ∃ w : Str, vs = [.str w] ∧ w.length ≤ 16000000 ∧ (lookN (tl w) = none → ∀ H', Ex H H' → Q .non H') ∧ ∀ l, lookN (tl w) = some l → ∀ p H', Ex H H' → H p = none → H' p = some (.tup l.vals) → Q (.ref p) H'
def mayF (ss : List Stg) (s : Stg) : Bool := decide (ss.length < 8) && (!s.isDial || decide (dials ss = 0))
def spDialP : Sp := fun vs H Q _ => ∃ x ss, vs = [x] ∧ Dq H x (.list (ss.map Stg.d)) ∧ ∀ v H', Ex H H' → (v = .non ↔ dials ss = 0) → (∀ i : Int, v = .int i ∨ True) → scal v .non = true → Q v H'
def spMayF : Sp := fun vs H Q _ => ∃ x y ss s, vs = [x, y] ∧ Dq H x (.list (ss.map Stg.d)) ∧ Dq H y s.d ∧ ∀ H', Ex H H' → Q (.bl (mayF ss s)) H'
theorem tup_eq (H : Hp) (v : V) : True := trivial
section
variable {P : Program} {w : World} {K : PySem.W.Frag} {mg : Str → Option Value} {base : Heap} {tD tM tS tL : Tok}
abbrev s__read_stage : Stmt := top 27
theorem sc__read_stage : FnScope ["word", "kind", "rest", "band", "lo", "add"] ["word"] (defScope s__read_stage) := ⟨rfl, rfl, rfl, by decide +kernel, rfl, by decide +kernel, by decide +kernel⟩
theorem ok_read_stage {f : Addr} {fd : FuncData} (F : Fun K "_read_stage" "_read_stage" s__read_stage f fd) (h_read_number : Has P w K mg base 1 "read_number" (spNum readN)) (h_read_natural : Has P w K mg base 2 "read_natural" (spNum natN)) (h_read_band : Has P w K mg base 4 "read_band" spBandN) :
    FnOk P w K mg base CX0 5 f fd ["word"] spStgN := by
  refine F.ok sc__read_stage (fun vs H Q E h => ?_) (fun cdv A outer s H vs Q E hr h => ?_)
  · obtain ⟨x, rfl, _⟩ := h
    rfl
  · obtain ⟨x, rfl, hx, k0, k1⟩ := h
    refine ⟨_, (pss_cons (ps_par (i := 1) (j := 2) (by rfl) sc__read_stage.nd rfl rfl (by decide) rfl rfl (pa_cons (pe_slice sl_str (pv 0) po_none (po_some pe_int)) (pa_cons (pe_slice sl_str (pv 0) (po_some pe_int) po_none) pa_nil)) (by rfl))
  (pss_cons (ps_if (pt_cmpR op_eq (pv 1) pe_str (nomark _))
  (pss_cons (ps_set (i := 3) sc__read_stage.nd rfl (Or.inl rfl) (pe_hs h_read_band hr rfl (pa_cons (pv 2) pa_nil)))
  (pss_one (ps_ret (pe_ifExp (pt_cmpR op_isN1 (pv 3) pe_non (nomark _)) pe_non (pe_tup (pa_cons pe_str (pa_cons (pe_ix ix_tup (pv 3) pe_int (fun _ _ => rfl)) (pa_cons (pe_ix ix_tup (pv 3) pe_int (fun _ _ => rfl)) pa_nil))))))))
  pss_nil)
  (pss_cons (ps_if (pt_cmpR op_eq (pv 1) pe_str (nomark _))
  (pss_cons (ps_set (i := 4) sc__read_stage.nd rfl (Or.inl rfl) (pe_hs h_read_natural hr rfl (pa_cons (pv 2) pa_nil)))
  (pss_one (ps_ret (pe_ifExp (pt_cmpR op_isN1 (pv 4) pe_non (nomark _)) pe_non (pe_tup (pa_cons pe_str (pa_cons (pv 4) pa_nil)))))))
  pss_nil)
  (pss_cons (ps_set (i := 5) sc__read_stage.nd rfl (Or.inl rfl) (pe_ifExp (pt_cmpR op_eq (pv 1) pe_str (nomark _)) (pe_hs h_read_number hr rfl (pa_cons (pv 2) pa_nil)) pe_non))
  (pss_one (ps_ret (pe_ifExp (pt_cmpR op_isN1 (pv 5) pe_non (nomark _)) pe_non (pe_tup (pa_cons pe_str (pa_cons (pv 5) pa_nil)))))))))), ?_⟩
    walk_at "rd"
    have hk : ∀ c : Nat, decide (V.str (L2.cutS x none (some 1)) = V.str ⟨#[c]⟩) = decide ((tl x).head? = some c) := fun c => by
      rw [str_eq, tl_cut0, tl_1]
      cases tl x with
      | nil => simp
      | cons a l => simp
    have hr1 : tl (L2.cutS x (some 1) none) = (tl x).drop 1 := tl_cut1 x
    have hrl : (L2.cutS x (some 1) none).length ≤ 16000000 := Nat.le_trans (cutS_length _ _ _) hx
    generalize L2.cutS x (some 1) none = r at *
    rw [show (("p" : String) : Str) = ⟨#[112]⟩ from by decide +kernel, hk]
    refine ite2 (fun c => ?_) (fun c => ?_)
    · obtain ⟨l, hl⟩ : ∃ l, tl x = 112 :: l := by
        cases q : tl x with
        | nil => rw [q] at c; simp at c
        | cons a l => rw [q] at c; simp at c; exact ⟨l, by rw [c]⟩
      rw [hl] at k0 k1 hr1
      walk_at "rd"
      refine ⟨r, rfl, hrl, fun hb H1 e1 => ?_, fun b hb q H1 e1 hq => ?_⟩
      · walk_at "rd"
        refine ite2 (fun _ => ?_) (fun c => absurd (by simp) c)
        walk_at "rd"
        refine k0 ?_ _ e1
        show (bandN l).map _ = none
        rw [show l = tl r from hr1.symm, hb]; rfl
      · walk_at "rd"
        refine ite2 (fun c => absurd c (by simp)) (fun _ => ?_)
        walk_at "rd"
        intro p hp
        refine k1 (.pass b.1 b.2) ?_ p _ (e1.trans (Ex.new hp)) ?_ upd_same
        · show (bandN l).map _ = some _
          rw [show l = tl r from hr1.symm, hb]; rfl
        · exact Evl.fresh_back e1 hp
    · walk_at "rd"
      rw [show (("m" : String) : Str) = ⟨#[109]⟩ from by decide +kernel, hk]
      refine ite2 (fun c2 => ?_) (fun c2 => ?_)
      · obtain ⟨l, hl⟩ : ∃ l, tl x = 109 :: l := by
          cases q : tl x with
          | nil => rw [q] at c2; simp at c2
          | cons a l => rw [q] at c2; simp at c2; exact ⟨l, by rw [c2]⟩
        rw [hl] at k0 k1 hr1
        walk_at "rd"
        refine ⟨r, rfl, hrl, fun H1 e1 => ?_⟩
        rw [show tl r = l from hr1]
        have hs : stgN (109 :: l) = (natN l).map .mix := rfl
        rw [hs] at k0 k1
        cases hb : natN l with
        | none =>
          rw [hb] at k0
          walk_at "rd"
          refine ite2 (fun _ => ?_) (fun c => absurd (by simp [optV]) c)
          walk_at "rd"
          exact k0 rfl _ e1
        | some n =>
          rw [hb] at k1
          walk_at "rd"
          refine ite2 (fun c => absurd c (by simp [optV])) (fun _ => ?_)
          rw [show optV (some n) = V.int n from rfl]
          walk_at "rd"
          intro p hp
          exact k1 _ rfl p _ (e1.trans (Ex.new hp)) (Evl.fresh_back e1 hp) upd_same
      · walk_at "rd"
        rw [show (("d" : String) : Str) = ⟨#[100]⟩ from by decide +kernel, hk]
        refine ite2 (fun c3 => ?_) (fun c3 => ?_)
        · obtain ⟨l, hl⟩ : ∃ l, tl x = 100 :: l := by
            cases q : tl x with
            | nil => rw [q] at c3; simp at c3
            | cons a l => rw [q] at c3; simp at c3; exact ⟨l, by rw [c3]⟩
          rw [hl] at k0 k1 hr1
          walk_at "rd"
          refine ⟨r, rfl, hrl, fun H1 e1 => ?_⟩
          rw [show tl r = l from hr1]
          have hs : stgN (100 :: l) = (readN l).map .dial := rfl
          rw [hs] at k0 k1
          cases hb : readN l with
          | none =>
            rw [hb] at k0
            walk_at "rd"
            refine ite2 (fun _ => ?_) (fun c => absurd (by simp [optV]) c)
            walk_at "rd"
            exact k0 rfl _ e1
          | some n =>
            rw [hb] at k1
            walk_at "rd"
            refine ite2 (fun c => absurd c (by simp [optV])) (fun _ => ?_)
            rw [show optV (some n) = V.int n from rfl]
            walk_at "rd"
            intro p hp
            exact k1 _ rfl p _ (e1.trans (Ex.new hp)) (Evl.fresh_back e1 hp) upd_same
        · walk_at "rd"
          refine ite2 (fun _ => ?_) (fun c => absurd (by simp) c)
          walk_at "rd"
          refine k0 ?_ _ (Ex.refl _)
          cases q : tl x with
          | nil => rfl
          | cons a l =>
            rw [q] at c c2 c3
            simp at c c2 c3
            unfold stgN
            split <;> simp_all
abbrev s__read_rate : Stmt := top 28
theorem sc__read_rate : FnScope ["word", "rate"] ["word"] (defScope s__read_rate) := ⟨rfl, rfl, rfl, by decide +kernel, rfl, by decide +kernel, by decide +kernel⟩
theorem ok_read_rate {f : Addr} {fd : FuncData} (F : Fun K "_read_rate" "_read_rate" s__read_rate f fd) (h_read_natural : Has P w K mg base 2 "read_natural" (spNum natN)) (h_is_rate : Has P w K mg base 2 "is_rate" (spLook isRate)) :
    FnOk P w K mg base CX0 3 f fd ["word"] (spNum rateN) := by
  refine F.ok sc__read_rate (fun vs H Q E h => ?_) (fun cdv A outer s H vs Q E hr h => ?_)
  · obtain ⟨x, rfl, _⟩ := h
    rfl
  · obtain ⟨x, rfl, hx, k⟩ := h
    refine ⟨_, (pss_cons (ps_set (i := 1) sc__read_rate.nd rfl (Or.inl rfl) (pe_ifExp (pt_val (pe_m1 PySem.F.slot_str_startswith PySem.F.type_str_startswith mt_sw (pv 0) pe_str)) (pe_hs h_read_natural hr rfl (pa_cons (pe_slice sl_str (pv 0) (po_some pe_int) po_none) pa_nil)) pe_non))
  (pss_one (ps_ret (pe_ifExp (pt_val (pe_hs h_is_rate hr rfl (pa_cons (pv 1) pa_nil))) (pv 1) pe_non)))), ?_⟩
    refine go_seq ?_
    refine go_asg ?_
    refine cut_e (te := tIf _ _ _) (fun v H' => ∃ r, v = optV r ∧ Ex H H' ∧ r = if (tl x).head? = some 47 then natN ((tl x).drop 1) else none) (fun Q' q => ?_) ?_
    · walk_at "rd"
      rw [str_slash, starts1]
      refine ite2 (fun c => ?_) (fun c => ?_)
      · walk_at "rd"
        refine ⟨_, rfl, Nat.le_trans (cutS_length _ _ _) hx, fun H1 e1 => ?_⟩
        rw [tl_cut1]
        exact q _ _ ⟨_, rfl, e1, by rw [if_pos (of_decide_eq_true c)]⟩
      · walk_at "rd"
        exact q _ _ ⟨none, rfl, Ex.refl _, by rw [if_neg (fun z => c (decide_eq_true z))]⟩
    · rintro v H1 ⟨r, rfl, e1, hr1⟩
      have fin : ∀ H2 (r' : Option Int), Ex H H2 → r' = ge2 r → Q (optV r') H2 := fun H2 r' e h => by
        have := k H2 e
        unfold rateN at this
        rw [← hr1, ← h] at this
        exact this
      walk_at "rd"
      refine look_go (dq_opt _ r) fun H2 e2 => ?_
      walk_at "rd"
      cases r with
      | none =>
        refine ite2 (fun _ => ?_) (fun c => absurd (by simp [optD, isRate]) c)
        walk_at "rd"
        exact fin _ none (e1.trans e2) rfl
      | some i =>
        refine ite2 (fun c => ?_) (fun c => ?_)
        · have : 2 ≤ i := by simpa [optD, isRate] using c
          walk_at "rd"
          exact fin _ (some i) (e1.trans e2) (by show some i = if 2 ≤ i then some i else none; rw [if_pos this])
        · have : ¬ 2 ≤ i := by simpa [optD, isRate] using c
          walk_at "rd"
          exact fin _ none (e1.trans e2) (by show none = if 2 ≤ i then some i else none; rw [if_neg this])
abbrev s__read_look : Stmt := top 30
theorem sc__read_look : FnScope ["word", "place", "_", "rest", "dial", "band"] ["word"] (defScope s__read_look) := ⟨rfl, rfl, rfl, by decide +kernel, rfl, by decide +kernel, by decide +kernel⟩
theorem ok_read_look {f : Addr} {fd : FuncData} (F : Fun K "_read_look" "_read_look" s__read_look f fd) (h_read_number : Has P w K mg base 1 "read_number" (spNum readN)) (h_read_band : Has P w K mg base 4 "read_band" spBandN) :
    FnOk P w K mg base CX0 5 f fd ["word"] spLkN := by
  refine F.ok sc__read_look (fun vs H Q E h => ?_) (fun cdv A outer s H vs Q E hr h => ?_)
  · obtain ⟨x, rfl, _⟩ := h
    rfl
  · obtain ⟨x, rfl, hx, k0, k1⟩ := h
    refine ⟨_, (pss_cons (ps_asg (pe_m1 PySem.F.slot_str_partition PySem.F.type_str_partition mt_prt (pv 0) pe_str) (pg_tup (by rfl) (pgs_cons (pg_name (i := 1) sc__read_look.nd rfl (Or.inl rfl)) (pgs_cons (pg_name (i := 2) sc__read_look.nd rfl (Or.inl rfl)) (pgs_cons (pg_name (i := 3) sc__read_look.nd rfl (Or.inl rfl)) pgs_nil)))))
  (pss_cons (ps_set (i := 4) sc__read_look.nd rfl (Or.inl rfl) (pe_hs h_read_number hr rfl (pa_cons (pv 1) pa_nil)))
  (pss_cons (ps_if (pt_cmpR op_isN1 (pv 4) pe_non (nomark _))
  (pss_one (ps_ret pe_non))
  pss_nil)
  (pss_cons (ps_if (pt_cmpR op_eq (pv 3) pe_str (nomark _))
  (pss_one (ps_ret (pe_tup (pa_cons (pv 4) (pa_cons pe_non (pa_cons pe_non pa_nil))))))
  pss_nil)
  (pss_cons (ps_set (i := 5) sc__read_look.nd rfl (Or.inl rfl) (pe_hs h_read_band hr rfl (pa_cons (pv 3) pa_nil)))
  (pss_one (ps_ret (pe_ifExp (pt_cmpR op_isN1 (pv 5) pe_non (nomark _)) pe_non (pe_tup (pa_cons (pv 4) (pa_cons (pe_ix ix_tup (pv 5) pe_int (fun _ _ => rfl)) (pa_cons (pe_ix ix_tup (pv 5) pe_int (fun _ _ => rfl)) pa_nil)))))))))))), ?_⟩
    walk_at "rd"
    intro p hp
    have e0 := Ex.new (o := HO.tup [V.str (Txt.partition x (Str.ofString "=")).1, .str (Txt.partition x (Str.ofString "=")).2.1, .str (Txt.partition x (Str.ofString "=")).2.2]) hp
    refine go_gtup (.inl (.inl upd_same)) rfl ?_
    walk_at "rd"
    obtain ⟨l1, _, l3⟩ := fact_partition x (Str.ofString "=")
    have ec : tl (Txt.partition x (Str.ofString "=")).1 = (cutEq (tl x)).1 ∧ tl (Txt.partition x (Str.ofString "=")).2.2 = (cutEq (tl x)).2 := by
      have e : tl (Str.ofString "=") = [61] := by decide +kernel
      rw [partition_par x _ (by rw [e]; simp), e]
      unfold cutEq
      cases h : par [61] [] (tl x) with
      | none => exact ⟨rfl, (by decide +kernel : tl Str.empty = [])⟩
      | some p => exact ⟨rfl, rfl⟩
    refine ⟨_, rfl, Nat.le_trans l1 hx, fun H1 e1 => ?_⟩
    rw [ec.1]
    generalize Txt.partition x (Str.ofString "=") = pt at *
    have e01 := e0.trans e1
    unfold lookN at k0 k1
    cases hd : readN (cutEq (tl x)).1 with
    | none =>
      rw [hd] at k0
      walk_at "rd"
      refine ite2 (fun _ => ?_) (fun c => absurd (by simp [optV]) c)
      walk_at "rd"
      exact k0 rfl _ e01
    | some d =>
      rw [hd] at k0 k1
      dsimp only at k0 k1
      walk_at "rd"
      refine ite2 (fun c => absurd c (by simp [optV])) (fun _ => ?_)
      walk_at "rd"
      rw [str_eq, ec.2, show tl (Str.ofString "-") = [45] from by decide +kernel]
      refine ite2 (fun c => ?_) (fun c => ?_)
      · rw [if_pos (of_decide_eq_true c)] at k1
        walk_at "rd"
        intro q hq
        exact k1 ⟨d, none⟩ rfl q _ (e01.trans (Ex.new hq)) (Evl.fresh_back e01 hq) upd_same
      · rw [if_neg (fun z => c (decide_eq_true z))] at k0 k1
        walk_at "rd"
        refine ⟨_, rfl, Nat.le_trans l3 hx, fun hb H2 e2 => ?_, fun b hb q H2 e2 hq => ?_⟩
        · rw [ec.2] at hb
          rw [hb] at k0
          walk_at "rd"
          refine ite2 (fun _ => ?_) (fun c => absurd (by simp) c)
          walk_at "rd"
          exact k0 rfl _ (e01.trans e2)
        · rw [ec.2] at hb
          rw [hb] at k1
          walk_at "rd"
          refine ite2 (fun c => absurd c (by simp)) (fun _ => ?_)
          rw [show optV (some d) = V.int d from rfl]
          walk_at "rd"
          intro p2 hp2
          exact k1 ⟨d, some b⟩ rfl p2 _ ((e01.trans e2).trans (Ex.new hp2)) (Evl.fresh_back (e01.trans e2) hp2) upd_same
end
end Kx

set_option Elab.async false
set_option linter.all false
set_option maxRecDepth 100000
set_option maxHeartbeats 2000000
/-! an own error over ValueError whose __init__ says super().__init__(text) and then stores one field -/
namespace SupX
open PySem PySem.W PySem.Calls PyProof.Rows PySem.HandSPX
/-! ### the bound __init__ of ValueError, called -/
section
variable {prog : Program} {w : World} {A : Around} {E : Value → Shared → Prop} {h : Heap} {g : Array GenState} {d : Drawn} {t : Nat} {os : OsState}
variable {nm q : Str} {C N : Addr} {bs bm : List Value} {hdct : Bool} {sn : List Str} {sub : List Value} {ab : Bool} {col : Option Bool} {dd : Option Addr} {k0 k1 k2 k3 k5 : Option Value}
theorem call_mw {u e t0 : Addr} {vs : List Value} {Q : Value → Shared → Prop}
    (hC : h.get? C = some (excClassObj nm q C N bs bm hdct sn sub ab col dd k0 k1 k2 k3 k5 "ValueError.__new__"))
    (he : h.get? e = some (excO C t0)) (hu : h.get? u = some (kxs_mw "ValueError.__init__" e)) (hz : vs.length ≤ sizeLine)
    (hq : ∀ h' t1, (∀ b o, b ≠ e → h.get? b = some o → h'.get? b = some o) → h'.get? e = some (excO C t1) → Q .none ⟨h', g, d, t, os⟩) :
    wpAny (model prog w) A (call (.ref u) vs) Q E ⟨h, g, d, t, os⟩ := by
  have c1 : (Value.type "method-wrapper" == Value.type "method" || Value.type "method-wrapper" == Value.type "builtin_function_or_method" || Value.type "method-wrapper" == Value.type "method-wrapper") = true := by decide
  refine wpAny_call ?_
  refine codeAny_of_tree ?_
  show wpAny _ A.in1 (callAny (.ref u) ⟨vs, []⟩) _ _ _
  simp only [callAny]
  refine wpAny_bind ?_
  refine wpAny_load hu ?_
  simp only [kxs_mw, c1, if_true]
  refine KFB.if_so (by decide) ?_
  refine wpAny_bind ?_
  refine check_bound_init F.excBase_ValueError.toExcCallFacts hC he rfl ?_
  refine wpAny_bind (wpAny_pure ?_)
  refine wpAny_pure ?_
  refine ⟨plainId_quiet F.excBase_ValueError.init.plain _, ?_⟩
  refine codeAny_builtin F.excBase_ValueError.initEntry ?_
  rw [Around.under_plainId F.excBase_ValueError.init.plain _]
  wp_walk
  refine hq _ h.objs.size (fun b o hb ho => ?_) ?_
  · rw [Heap.get?_update_other _ _ (Ne.symm hb)]
    exact Heap.get?_push_of_some _ ho
  · rw [Heap.get?_update_self _ (Heap.get?_push_of_some _ he) rfl]
    rfl
end
/-- o.name(e), o told of a known activation -/
theorem at_method {M : Model} {A : Around} {c : Code} {E : Value → Shared → Prop} {s : Shared} {env : Env} {o e : Expr} {name : Str} {apos pos : Pos} {Q : Value → Shared → Prop} (hl : (apos.endLine == pos.line) = true)
    (hf : methodCallForm 1 (backTo pos (starEach [e] env)) [] = true)
    (h : PySem.wpAt M A c (attributeBase o name env (eval o env)) (fun ov s₁ => wpAny M A (getMethod ov name (do return (← importBound o env).getD true)) (fun fx s₂ => wpAny M A (callWith pos fx.1 fx.2 (backTo pos (starEach [e] env)) []) Q E s₂) E s₁) E s) :
    PySem.wpAt M A c (eval (.Call (.Attribute o name apos) [e] [] pos) env) Q E s := by
  have hp : methodCallPos true o env apos pos = pure pos := by unfold methodCallPos; simp [hl]
  rw [arm_eval_Call]
  refine PySem.wpAt_bind (ks_wpAt_mono h (fun ov s₁ h₁ => ?_) fun _ _ z => z)
  refine PySem.wpAt_of_wpAny ?_
  refine wpAny_bind (wpAny_standAt ?_)
  unfold methodCall
  rw [show methodCallForm ([e].length + ([] : List Keyword).length) (backTo pos (starEach [e] env)) (backToKw pos (keywordEach [] env)) = true from hf]
  refine wpAny_bind (wpAny_holding ?_)
  exact wpAny_mono h₁ (fun fx s₂ h₂ => wpAny_bind (wpAny_of_eq hp h₂)) fun _ _ z => z
/-! ### the text of __init__ -/
def iA (f : Str) (p1 p2 : Pos) : Arguments :=
  { posonlyargs := [], args := [{ arg := "self", annotation := none, pos := p1 }, { arg := f, annotation := none, pos := p2 }], vararg := none, kwonlyargs := [], kw_defaults := [], kwarg := none, defaults := [] }
def iB (f msg : Str) (p1 p2 p3 p4 p5 p6 q1 q2 q3 q4 : Pos) : List Stmt :=
  [.Expr (.Call (.Attribute (.Call (.Name "super" p1) [] [] p2) "__init__" p3) [.Constant (.str msg) 0 p4] [] p5) p6, .Assign [.Attribute (.Name "self" q1) f q2] (.Name f q3) q4]
def iS (f : Str) : Scope :=
  { kind := .function, names := [(PySem.Str.ofString "self", .local), (f, .local), (PySem.Str.ofString "__class__", .free), (PySem.Str.ofString "super", .globalImplicit)], isGenerator := false, isCoroutine := false, more := [] }
/-- what the written part says of the error at C and of its __init__ at fI -/
structure ErrTxt (P : Program) (K : Frag) (mg : Str → Option Value) (nmE fld : Str) (C fI : Addr) : Prop where
  okf : fld = "index" ∨ fld = "word"
  gC : mg nmE = some (.ref C)
  cls : ∃ nm q N bs bm sn sub ab col dd k0 k1 k2 k3 k5, K.lookup C = some (excClassObj nm q C N bs bm true sn sub ab col dd k0 k1 k2 k3 k5 "ValueError.__new__") ∧ refsVE bm = true
  sa : findIn K (.ref C) "__setattr__" = some (some (.builtin "object.__setattr__"))
  ga : findIn K (.ref C) "__getattribute__" = some (some (.builtin "BaseException.__getattribute__"))
  gg : findIn K (.ref C) "__getattr__" = some none
  noN : findIn K (.ref C) fld = some none
  iC : findIn K (.ref C) "__init__" = some (some (.ref fI))
  tC : typeIn K (.ref fI) = some (.type "function")
  kC : keepIn K (.ref C) = true
  exC : subIn K (.ref C) (.type "BaseException") = some true
  veC : subIn K (.ref C) (.type "ValueError") = some true
  meC : mroIn K C (.ref C) = some true
  tyC : typeIn K (.ref C) = some (.type "type")
  hdC : hasDictIn K C = true
  te : exmOne K (.ref C) (.ref C) = some true
  sup : ks_superIn K C C "__init__" = some (some (.builtin "ValueError.__init__"))
  op : nsIn K cStatics "thirdparty.any" = some none
  gs : mg "super" = none
  top : (P.main.scope.names.lookup ("super" : Str)).isSome = false
  fn : ∃ (oc : Value) (od : Option Addr) (doc pm : Value) (an : Option Addr) (ct qn : Value) (q : Str) (osl : Array (Option Value)) (msg : Str) (p1 p2 a1 a2 a3 a4 a5 a6 q1 q2 q3 q4 : Pos) (cc cda : Addr)
      (cl : Value) (cld : Option Addr) (csl : Array (Option Value)) (dl : Value) (dld : Option Addr) (dsl : Array (Option Value)) (vs : Array Value) (file : Str) (tf : Tok),
    K.lookup fI = some ⟨oc, od, .func (fnX "__init__" q (iA fld p1 p2) (iB fld msg a1 a2 a3 a4 a5 a6 q1 q2 q3 q4) (iS fld) [("__class__", cc)] .none .none doc pm an (.ref cda) ct), osl⟩ ∧ codeIn K (.ref cda) q = true ∧
      K.lookup cc = some ⟨cl, cld, .cell (some (.ref C)), csl⟩ ∧ K.lookup cda = some ⟨dl, dld, .fields vs, dsl⟩ ∧ vs[2]? = some (.str file tf) ∧ ((P.main.file : Str) == file) = true ∧ (a3.endLine == a5.line) = true
/-- what __init__ leaves of a fresh exception at x -/
structure InitEnd (fld : Str) (h h' : Heap) (x C dx t1 : Addr) (v : Value) : Prop where
  keep : ∀ b o, b ≠ x → h.get? b = some o → h'.get? b = some o
  obj : h'.get? x = some { cls := .ref C, dict := some dx, data := .fields #[.ref t1, .none, .none, .none, .bool false, .none] }
  dbig : h.objs.size ≤ dx
  dne : dx ≠ x
  ns : h'.Ns1 dx (fun y => if y = fld then some v else none)
structure OwnMade (fld : Str) (h h' : Heap) (e C d : Addr) (v : Value) : Prop where
  keep : ∀ b o, h.get? b = some o → h'.get? b = some o
  new : h.objs.size ≤ e
  obj : ∃ t1 : Addr, h'.get? e = some { cls := .ref C, dict := some d, data := .fields #[.ref t1, .none, .none, .none, .bool false, .none] }
  dbig : h.objs.size ≤ d
  dne : d ≠ e
  ns : h'.Ns1 d (fun y => if y = fld then some v else none)
/-- what stands below: the globals, the built-ins -/
structure Gnd (mg : Str → Option Value) (h : Heap) : Prop where
  lim : h.NoLimit
  g : h.Ns mainGlobals mg
  b : ∃ mb, h.Ns builtinsNs mb ∧ ∀ x : Str, x ≠ "__name__" → mb x = bootBuiltins x
theorem Gnd.keeps {mg : Str → Option Value} {h h' : Heap} (G : Gnd mg h) (k : ∀ b o, h.get? b = some o → h'.get? b = some o) : Gnd mg h' :=
  ⟨G.lim.keeps k, G.g.keeps k, let ⟨mb, q1, q2⟩ := G.b; ⟨mb, q1.keeps k, q2⟩⟩
section
variable {P : Program} {w : World} {A : Around} {E : Value → Shared → Prop} {R : Result → Shared → Prop} {s : Shared} {K : Frag} {mg : Str → Option Value} {nmE fld : Str} {C fI : Addr}
theorem sup_init (T : ErrTxt P K mg nmE fld C fI) {x t0 : Addr} {v : Value} {args : Args} (hargs : args = ⟨[.ref x, v], []⟩ ∨ args = ⟨[.ref x], [(fld, v)]⟩) (X : K.In s.heap) (G : Gnd mg s.heap) (hx : s.heap.get? x = some (excO C t0)) (hnx : K.lookup x = none) (hroom : A.depth < recursionLimit)
    (hq : ∀ h' tk dx t1, InitEnd fld s.heap h' x C dx t1 v → R (.ok (.ret .none)) { s with heap := h', toks := tk }) :
    codeAny (model P w) A (.call (.ref fI) args) R s := by
  obtain ⟨oc, od, doc, pm, an, ct, qn, q, osl, msg, p1, p2, a1, a2, a3, a4, a5, a6, q1, q2, q3, q4, cc, cda, cl, cld, csl, dl, dld, dsl, vs, file, tf, ho, hcd, hcc, hcda, hvs, hfile, hln⟩ := T.fn
  obtain ⟨nm, qq, N, bs, bm, sn, sub, ab, col, dd, k0, k1, k2, k3, k5, hC, hbm⟩ := T.cls
  have hcl : clsIn K C = some { name := nm, bases := bs, mro := .ref C :: bm, ns := N, qualname := qq, hasDict := true, slotNames := sn, subclasses := sub, abstract := ab, collection := col, hasDel := false } := by unfold clsIn; rw [hC] <;> rfl
  obtain ⟨lim, gg, mb, gb, hbb⟩ := G
  have main : ∀ (fld : Str), (args = ⟨[.ref x, v], []⟩ ∨ args = ⟨[.ref x], [(fld, v)]⟩) → (fld = "index" ∨ fld = "word") → findIn K (.ref C) fld = some none →
      K.lookup fI = some ⟨oc, od, .func (fnX "__init__" q (iA fld p1 p2) (iB fld msg a1 a2 a3 a4 a5 a6 q1 q2 q3 q4) (iS fld) [("__class__", cc)] .none .none doc pm an (.ref cda) ct), osl⟩ →
      (∀ h' tk dx t1, InitEnd fld s.heap h' x C dx t1 v → R (.ok (.ret .none)) { s with heap := h', toks := tk }) → codeAny (model P w) A (.call (.ref fI) args) R s := by
    intro fld hargs okf noN ho hq
    have kI : (iS fld).names.lookup ("self" : Str) = some .local := rfl
    have kF : (iS fld).names.lookup fld = some .local := by rcases okf with rfl | rfl <;> decide
    have kC : (iS fld).names.lookup ("__class__" : Str) = some .free := by rcases okf with rfl | rfl <;> decide
    have kS : (iS fld).names.lookup ("super" : Str) = some .globalImplicit := by rcases okf with rfl | rfl <;> decide
    have kD : (fld == ("__debug__" : Str)) = false := by rcases okf with rfl | rfl <;> decide
    have bnd : ∀ s, BindsTo s (fnX "__init__" q (iA fld p1 p2) (iB fld msg a1 a2 a3 a4 a5 a6 q1 q2 q3 q4) (iS fld) [("__class__", cc)] .none .none doc pm an (.ref cda) ct) args [("self", .ref x), (fld, v)] := fun s => by
      rcases hargs with rfl | rfl <;> rcases okf with rfl | rfl <;> exact BindsTo.of_eq rfl
    have lkF : ([("self", Value.ref x), (fld, v)] : List (Str × Value)).reverse.lookup fld = some v := by simp [List.lookup]
    have lkS : ([("self", Value.ref x), (fld, v)] : List (Str × Value)).reverse.lookup ("self" : Str) = some (Value.ref x) := by rcases okf with rfl | rfl <;> rfl
    refine ks_codeAny_call_defAt (fd := fnX "__init__" q (iA fld p1 p2) (iB fld msg a1 a2 a3 a4 a5 a6 q1 q2 q3 q4) (iS fld) [("__class__", cc)] .none .none doc pm an (.ref cda) ct) (binds := [("self", .ref x), (fld, v)])
      hroom (X _ _ ho) rfl lim (codeRec_of X hcd) rfl (bnd _) (fun y hy => ?_) (fun y hy => ?_) (fun h₁ hns k => ?_) rfl rfl rfl
    · rcases okf with rfl | rfl <;> (intro z; simp [iS] at hy; rcases hy with rfl | rfl | rfl | rfl <;> cases z)
    · rcases List.mem_cons.mp hy with rfl | hy
      · exact kI
      · rw [List.mem_singleton.mp hy]
        exact kF
    have X₁ : K.In h₁ := X.keeps k
    have hx₁ := k _ _ hx
    show PySem.wpAt _ _ _ (execs _ _) _ _ _
    refine ks_wpAt_execs_cons (ks_wpAt_Expr_any (at_method hln rfl ?_))
    refine ks_wpAt_super_base (env := ksEnv q (iS fld) s.heap.objs.size fI (.ref cda) cc) kS kC (by decide) rfl (X₁ _ _ ho) rfl rfl rfl (X₁ _ _ hcda) rfl hvs hfile T.top ?_
    refine ks_loadName_global rfl kS (loadGlobal_builtin (env := ksEnv q (iS fld) s.heap.objs.size fI (.ref cda) cc) (gg.keeps k) T.gs (gb.keeps k) ((hbb _ (by decide +kernel)).trans (by first | boot_by_name | rfl | kernel_rfl)) ⟨rfl, ?_⟩)
    refine wpAny_loadName_free rfl kC rfl ⟨_, X₁ _ _ hcc, rfl⟩ ?_
    refine wpAny_loadName_local rfl kI hns lkS ?_
    refine ks_wpAny_isType_cls (X₁ _ _ hC) rfl ⟨rfl, ?_⟩
    have noc : ∀ c, (excO C t0).data ≠ .cls c := fun c z => nomatch z
    refine ks_wpAny_call_super (X₁ _ _ hC) rfl hx₁ rfl noc (looks_mroIn X₁ T.meC) (fun h₂ hso k₂ => ?_)
    have X₂ : K.In h₂ := X₁.keeps k₂
    have hx₂ := k₂ _ _ hx₁
    have hxC : x ≠ C := fun z => by rw [z] at hnx; rw [hnx] at hC; cases hC
    have hsup : alongIn K "__init__" (((.ref C :: bm : List Value).dropWhile (· != .ref C)).drop 1) = some (some (.builtin "ValueError.__init__")) := by
      have z := T.sup
      unfold ks_superIn at z
      rw [hcl] at z
      exact z
    have I₂ : InstAt h₂ x (excO C t0) C none := ⟨hx₂, rfl, rfl, trivial⟩
    refine kxs_getMethod kxs_ValueError hso (looks_opaque X₂ T.op) (l₀ := .ref C :: bm) ((looks_clsIn X₂ hcl).andThen .now) rfl X₂ hsup (I₂.type.andThen (looks_subIn X₂ T.veC)) hxC (by decide) ?_
    have hu : (h₂.push (kxs_mw "ValueError.__init__" x)).get? h₂.objs.size = some (kxs_mw "ValueError.__init__" x) := Heap.get?_push_at rfl rfl
    have k₃ : ∀ b o, h₂.get? b = some o → (h₂.push (kxs_mw "ValueError.__init__" x)).get? b = some o := fun b o e => Heap.get?_push_of_some _ e
    refine kxs_callWith (i := "ValueError.__init__") (x := x) rfl ?_
    refine evalArgs_plain (spliced_cons (wpAny_Constant_str (k := 0) (pos := a4) (spliced_nil ⟨hu, ?_⟩)))
    refine call_mw (X₂.keeps k₃ _ _ hC) (k₃ _ _ hx₂) hu (by show 1 ≤ sizeLine; rw [sizeLine_eq]; decide) fun h₄ t1 k₄ hx₄ => ?_
    -- self.f = f
    have kk : ∀ b o, b ≠ x → h₁.get? b = some o → h₄.get? b = some o := fun b o hb e => k₄ b o hb (k₃ b o (k₂ b o e))
    have hxL : s.heap.objs.size ≠ x := Nat.ne_of_gt (Heap.lt_size hx)
    have hns₄ : h₄.Ns s.heap.objs.size (fun y => ([("self", Value.ref x), (fld, v)] : List (Str × Value)).reverse.lookup y) := hns.at fun o e => kk _ _ hxL e
    have X₄ : K.In h₄ := fun b o e => kk b o (fun z => by rw [z, hnx] at e; cases e) (X₁ b o e)
    refine ks_wpAt_execs_cons (PySem.wpAt_of_wpAny ?_)
    refine plainObj_wpAny_Assign_Attribute ?_
    refine wpAny_Name (wpAny_loadName_local rfl kF hns₄ lkF ?_) kD
    refine wpAny_Name (wpAny_loadName_local rfl kI hns₄ lkS ?_) (by decide)
    refine set_plain X₄ (ox := excO C t1) (od := none) ⟨hx₄, rfl, rfl, trivial⟩ T.sa ?_
    refine exc_osa X₄ hx₄ hcl (show refsVE (.ref C :: bm) = true from hbm) rfl noN (fun h₅ tk₅ dx k₅ dn dne hx₅ hn₅ => ?_)
    refine PySem.wpAt_of_wpAny ?_
    show wpAny _ _ (execs [] _) _ _ _
    have lt1 : s.heap.objs.size ≤ dx := by
      have q1 : s.heap.objs.size < h₄.objs.size := hns₄.lt
      have q2 : h₄.objs.size ≤ dx := dn
      omega
    exact wpAny_execs_nil (hq h₅ tk₅ dx t1 ⟨fun b o hb e => k₅ b o hb (kk b o hb (k b o e)), hx₅, lt1, dne, hn₅⟩)
  exact main fld hargs T.okf T.noN ho hq
theorem sup_made (T : ErrTxt P K mg nmE fld C fI) {v : Value} (X : K.In s.heap) (G : Gnd mg s.heap) (hroom : A.depth + 1 < recursionLimit)
    (hq : ∀ h' tk e d, OwnMade fld s.heap h' e C d v → R (.ok (.ret (.ref e))) { s with heap := h', toks := tk }) :
    codeAny (model P w) A (.call (.ref C) ⟨[v], []⟩) R s := by
  obtain ⟨nm, qq, N, bs, bm, sn, sub, ab, col, dd, k0, k1, k2, k3, k5, hC, hbm⟩ := T.cls
  obtain ⟨hp, g, dr, tk, os⟩ := s
  have k : ∀ b o, hp.get? b = some o → ((hp.push (kdv_tup [v])).push (excO C hp.objs.size)).get? b = some o := fun b o e => Heap.get?_push_of_some _ (Heap.get?_push_of_some _ e)
  have hget : ((hp.push (kdv_tup [v])).push (excO C hp.objs.size)).get? (hp.objs.size + 1) = some (excO C hp.objs.size) := by heap_get
  have hnx : K.lookup (hp.objs.size + 1) = none := by
    cases e : K.lookup (hp.objs.size + 1) with
    | none => rfl
    | some o => exact absurd (Nat.lt_of_succ_lt (Heap.lt_size (X _ _ e : hp.get? (hp.objs.size + 1) = some o))) (Nat.lt_irrefl _)
  refine call_own F.excBase_ValueError (fun X => refsVE_contains X bm hbm) (X _ _ hC) (looks_findIn X T.iC) (fun self => bind_fn X self T.tC) (by show 1 ≤ sizeLine; rw [sizeLine_eq]; decide) ?_
  refine sup_init (s := ⟨(hp.push (kdv_tup [v])).push (excO C hp.objs.size), g, dr, tk, os⟩) T (.inl rfl) (X.keeps k) (G.keeps k) hget hnx hroom fun h' tk' dx t1 I => ?_
  have old : ∀ b o, hp.get? b = some o → h'.get? b = some o := fun b o e => I.keep b o (Nat.ne_of_lt (Nat.lt_succ_of_lt (Heap.lt_size e))) (k b o e)
  have z : hp.objs.size + 1 + 1 ≤ dx := by simpa only [Heap.size_push] using I.dbig
  exact ⟨rfl, hq h' tk' (hp.objs.size + 1) dx ⟨old, Nat.le_succ _, ⟨t1, I.obj⟩, by show hp.objs.size ≤ dx; omega, I.dne, I.ns⟩⟩
end
end SupX

set_option Elab.async false
set_option linter.all false
set_option maxRecDepth 100000
set_option maxHeartbeats 2000000
namespace HX
open PySem PySem.Spec PyProof.Rows L2
theorem relO_fld {fld : Str} {v : V} {v' : Value} (r : RelV v v') (f : Str) : RelO (List.lookup f [(fld, v)]) (if f = fld then some v' else none) := by
  by_cases hw : f = fld
  · subst hw
    rw [if_pos rfl, show List.lookup f [(f, v)] = some v from by simp [List.lookup]]
    exact r
  · rw [if_neg hw, show List.lookup f [(fld, v)] = none from by simp [List.lookup, show (f == fld) = false from by simpa using hw]]
    trivial
theorem gnd_of {X : Cx} {pins : List (Addr × Obj)} {σ : L2.St} {H : Hp} {s : Shared} (I : Inv X pins σ H s) : SupX.Gnd X.mg s.heap :=
  ⟨I.nolimit, I.mod.glob.keeps I.bk, let ⟨mb, q1, q2⟩ := I.mod.blt; ⟨mb, q1.keeps I.bk, q2⟩⟩
section
variable {X : Cx} {nmE fld : Str} {C fI : Addr}
/-- X(e), X an own error with one field -/
def tMkErr (fld : Str) (C : Addr) (ta : TA) : L2.St → Hp → XK → Prop := fun σ H Q => ta σ H fun vs H1 => ∃ v, vs = [v] ∧ ∀ d, H1 d = none → Q (.ref C) (some d) (upd H1 d (.xd [(fld, v)]))
theorem pmk_err {a : Expr} {ta : TA} {p pos : Pos} {k : Nat} (T : SupX.ErrTxt X.prog X.K X.mg nmE fld C fI) (hr : Room k X.A) (ha : PA X [a] ta) (hg : Gl X nmE) (hdb : (nmE == ("__debug__" : Str)) = false)
    (he : starEach (a :: []) X.env = (false, eval a X.env) :: starEach [] X.env := by rfl) (hpl : (backTo pos (starEach [] X.env)).any (·.1) = false := by rfl) :
    PMk X (.Call (.Name nmE p) [a] [] pos) (tMkErr fld C ta) := by
  intro pins s σ H Q I h
  refine wpAny_Call_Name_kw (ld_glob I hg T.gC ?_ hdb)
  refine PySem.W.callWith_K (h₀ := X.base) I.ok.mod.kin T.kC (thn (ha.run pos pins s σ H _ I h) fun us s1 hh => ?_) he hpl
  obtain ⟨vs, H1, I1, r1, v, ev, q1⟩ := hh
  subst ev
  refine ⟨I1.kIn, ?_⟩
  cases r1 with
  | cons rv rn =>
    rename_i v' us'
    cases rn
    show wpAny _ _ (call (.ref C) [v']) _ _ _
    have G1 := gnd_of I1
    obtain ⟨hp, g, dr, tk, os⟩ := s1
    refine wpAny_call (SupX.sup_made T I1.kIn G1 (by have := hr.dp; omega) fun h' tk' e d M => ?_)
    show MkP X pins σ Q (.ref e) ⟨h', g, dr, tk', os⟩
    obtain ⟨t1, hoe⟩ := M.obj
    have hns := M.ns
    obtain ⟨G', g1, g2⟩ := restrict h' fun b => decide (b ≠ e)
    have gk : ∀ b, b ≠ e → G'.get? b = h'.get? b := fun b hb => g1 b (decide_eq_true hb)
    have ge : G'.get? e = none := g2 e (by simp)
    have old : ∀ b o, hp.get? b = some o → G'.get? b = some o := fun b o q => (gk b (Nat.ne_of_lt (Nat.lt_of_lt_of_le (Heap.lt_size q) M.new))).trans (M.keep b o q)
    have ob : ObjOk X.prog X.w (upd H1 d (.xd [(fld, v)])) G' d (.xd [(fld, v)]) :=
      ⟨_, hns.at (fun o q => (gk d M.dne).trans q), fun f => relO_fld rv f⟩
    have J : Inv X pins σ (upd H1 d (.xd [(fld, v)])) ⟨G', g, dr, tk', os⟩ := I1.laid (t' := tk') old M.dbig ob
    refine ⟨e, _, _, ⟨G', g, dr, tk', os⟩, _, .ref C, some d, rfl, J, fun b o q => ?_, ge, hoe, ⟨rfl, rfl⟩, rfl, rfl, ?_, rfl, I1.bare, raises_own T.exC T.tyC, q1 d (I1.hok.fresh M.dbig)⟩
    · by_cases hb : b = e
      · have q' : G'.get? b = some o := q
        rw [hb, ge] at q'; cases q'
      · exact (gk b hb).symm.trans q
    · rw [upd_ne (Ne.symm M.dne)]
      exact I1.hok.fresh M.new
/-- raise X(e) -/
def tRaiseErr (fld : Str) (C : Addr) (W : WX) (ta : TA) : TS := fun _ σ H => tMkErr fld C ta σ H fun cls d H' => W cls d σ H'
theorem ps_raiseErr {a : Expr} {ta : TA} {W : WX} {p pos pos2 : Pos} {k : Nat} (hc : X.calm = true) (T : SupX.ErrTxt X.prog X.K X.mg nmE fld C fI) (hr : Room k X.A) (tk : Takes X W) (ha : PA X [a] ta) (hg : Gl X nmE := by rfl) (hdb : (nmE == ("__debug__" : Str)) = false := by decide)
    (he : starEach (a :: []) X.env = (false, eval a X.env) :: starEach [] X.env := by rfl) (hpl : (backTo pos (starEach [] X.env)).any (·.1) = false := by rfl) :
    PS X (.Raise (some (.Call (.Name nmE p) [a] [] pos)) none pos2) (tRaiseErr fld C W ta) := ps_raise hc tk (pmk_err T hr ha hg hdb he hpl)
/-- e.fld, e the exception that the suite holds (at a; its class cls, its dict d) -/
def tByErr (fld : Str) (C : Addr) (a : Addr) (cls : Value) (d : Option Addr) (te : TE) : TE := fun σ H Q => te σ H fun x H1 => x = .ref a ∧ cls = .ref C ∧ ∃ (dd : Addr) (v : V), d = some dd ∧ H1 dd = some (.xd [(fld, v)]) ∧ Q v H1
theorem pe_byErr {a : Addr} {oe : Obj} {cls : Value} {d : Option Addr} {pn : List (Addr × Obj)} {e : Expr} {te : TE} {pos : Pos} (T : SupX.ErrTxt X.prog X.K X.mg nmE fld C fI) (hz : Zc cls d oe) (hf : ∃ vs, oe.data = .fields vs) (he : PE (X.suite a ((a, oe) :: pn)) e te)
    (hb : attributeBase e fld X.env (eval e X.env) = eval e X.env := by rfl) :
    PE (X.suite a ((a, oe) :: pn)) (.Attribute e fld pos) (tByErr fld C a cls d te) := by
  refine ⟨fun pins s σ H Q I h => ?_⟩
  refine attr_of hb (thn (he.run pins s σ H _ I h) fun u s1 hh => ?_)
  obtain ⟨x, H1, I1, rx, ex, ec, dd, v, ed, ea, q⟩ := hh
  subst ex
  obtain rfl : u = Value.ref a := rx
  subst ec
  subst ed
  obtain ⟨ha, _⟩ := I1.pin (a, oe) (List.mem_append_left _ List.mem_cons_self)
  obtain ⟨vs, hd⟩ := hf
  have hx : ObjOk X.prog X.w H1 s1.heap dd (.xd [(fld, v)]) := I1.hok dd _ ea
  obtain ⟨mA, hns, hr⟩ := hx
  obtain ⟨od, ho, hl⟩ := lookIn_ns hns
  have l : List.lookup fld [(fld, v)] = some v := by simp [List.lookup]
  obtain ⟨u, hu, ru⟩ := RelO.some_of (v := v) (o := mA fld) (by rw [← l]; exact hr fld)
  have J : PySem.W.InstAt s1.heap a oe C (some od) := ⟨ha, hz.1, by unfold PySem.W.notCls; rw [hd] <;> rfl, by rw [hz.2]; exact ho⟩
  exact HandSPX.exc_get I1.kIn J T.ga T.gg T.exC (PySem.W.findObj_own T.hdC T.noN rfl (by rw [hl, hu])) (handed_of ru) ⟨v, H1, I1.tok _, ru, q⟩
end
end HX

set_option Elab.async false
set_option linter.all false
set_option maxRecDepth 100000
set_option maxHeartbeats 2000000
/-! several except clauses, each with the same name (as e) -/
namespace HX
open PySem PySem.Spec PyProof.Rows L2
/-- behind a suite the name's slot is empty -/
def Ends.clr (i : Nat) (D : Ends) : Ends := { nx := fun τ G => D.nx (τ.set i none) G, rt := D.rt, bk := fun τ G => D.bk (τ.set i none) G, ct := fun τ G => D.ct (τ.set i none) G }
def wAll (K : PySem.W.Frag) (i : Nat) (Wo : WX) (D : Ends) : List (Value × (Addr → Value → Option Addr → TS)) → WX
  | [] => Wo
  | (c, t) :: more => fun cl dd τ G => ∃ yes, PySem.W.exmOne K cl c = some yes ∧ (yes = true → ∀ x, G x = none → t x cl dd (Ends.clr i D) (τ.set i (some (.ref x))) G) ∧ (yes = false → wAll K i Wo D more cl dd τ G)
inductive Clauses (X : Cx) (n : Str) : List ExceptHandler → List (Value × (Addr → Value → Option Addr → TS)) → Prop
  | nil : Clauses X n [] []
  | cons {x : Str} {c : Value} {t : Addr → Value → Option Addr → TS} {b : Stmt} {bs : List Stmt} {p q : Pos} {hs : List ExceptHandler} {l : List (Value × (Addr → Value → Option Addr → TS))} (nm : Names X x c)
      (body : ∀ (x : Addr) (ob : Obj) (cl : Value) (dd : Option Addr) (pn : List (Addr × Obj)), Zc cl dd ob → (∃ vs, ob.data = .fields vs) → PSs (X.suite x ((x, ob) :: pn)) (b :: bs) (t x cl dd)) (more : Clauses X n hs l) :
      Clauses X n (.ExceptHandler (some (.Name x p)) (some n) (b :: bs) q :: hs) ((c, t) :: l)
section
variable {X : Cx} {n : Str} {i : Nat} {body : List Stmt} {h1 : ExceptHandler} {hs : List ExceptHandler} {l : List (Value × (Addr → Value → Option Addr → TS))} {pos : Pos} {tb : WX → TS} {Wo : WX}
theorem ps_try_all (st : X.stack = X.env :: X.outer) (fr : X.env.frame = some X.env.locals) (nd : X.N.Nodup) (at_ : X.N[i]? = some n) (lc : X.env.kindOf n = some .local) (out : Takes X Wo)
    (hb : ∀ (W : WX) (pn : List (Addr × Obj)) (xe : Value → Shared → Prop), Takes (X.tr pn xe) W → PassesOwn (model X.prog X.w) X.A X.env xe → PSs (X.tr pn xe) body (tb W)) (cs : Clauses X n (h1 :: hs) l) :
    PS X (.Try body (h1 :: hs) [] [] pos) (fun D σ H => tb (wAll X.K i Wo D l) D σ H) := by
  constructor
  intro pins s σ H D I want
  have okX := I.ok
  have frs1 : X.A.frames = some (X.env :: X.outer) := okX.frames.trans (by rw [st])
  refine wpAny_Try_except ?_
  let after : Value → Shared → Prop := fun u s1 => wpAny (model X.prog X.w) X.A (noteFrame u X.env) (fun _ s2 =>
    wpAny (model X.prog X.w) X.A (setFlight u none) (fun _ s3 => wpAny (model X.prog X.w) X.A (handleBy u X.env (h1 :: hs)) (SP X pins D) X.xe s3) X.xe s2) X.xe s1
  have caught : Takes (X.tr (X.pn ++ pins) after) (wAll X.K i Wo D l) := by
    rintro u s1 ⟨x, gr, s0, pins2, τ, G, cl, dd, rfl, I2, ng, us, sk, nx, eos, bare, want2⟩
    have I0 : Inv X pins τ G s0 := I2.ofTry okX
    rw [show (X.tr (X.pn ++ pins) after).stack = X.env :: X.outer from st] at sk
    show wpAny (model X.prog X.w) X.A (noteFrame (.ref x) X.env) _ _ _
    refine Sky.land Zc.steady frs1 fr sk fun g2 fly us2 => ?_
    have I3 : Inv X pins τ G { s1 with heap := g2 } := I0.landed ng fly.1 (us.trans us2) eos bare
    obtain ⟨ob, vs, gx, zx, dx⟩ := fly.there
    have apart : x ∉ frs (X.env :: X.outer) := by
      intro m
      obtain ⟨_, o2, e2, nf⟩ := fly.2.2.1.mem m
      rw [gx] at e2
      cases e2
      exact nf _ dx
    have xL : x ≠ X.env.locals := fun z => apart (List.mem_filterMap.mpr ⟨X.env, List.mem_cons_self, by rw [fr, z]⟩)
    have xF : x ∉ X.fs := by
      intro m
      obtain ⟨e2, m2, q2⟩ := List.mem_filterMap.mp m
      exact apart (List.mem_filterMap.mpr ⟨e2, List.mem_cons_of_mem _ m2, q2⟩)
    have inS := I3.suite gx dx nx xL xF
    have walkC : ∀ {hs2 : List ExceptHandler} {l2 : List (Value × (Addr → Value → Option Addr → TS))}, Clauses X n hs2 l2 → wAll X.K i Wo D l2 cl dd τ G →
        wpAny (model X.prog X.w) X.A (handleBy (.ref x) X.env hs2) (SP X pins D) X.xe { s1 with heap := g2 } := by
      intro hs2 l2 c2
      induction c2 with
      | nil =>
        intro w
        refine wpAny_handleBy_nil ?_
        obtain ⟨_, _, _, ob2, vs2, Tb, oTb, ts2, gx2, _, dx2, v1, _⟩ := id fly
        unfold PySem.passOn
        refine wpAny_bind (wpAny_field gx2 dx2 v1 ?_)
        have isnt : ¬ ((Value.ref Tb == Value.none) = true) := by simp
        rw [if_neg isnt]
        have leave : wpAny (model X.prog X.w) X.A (setFlight (.ref x) X.env.frame) (fun _ s4 => wpAny (model X.prog X.w) X.A (throw (.ref x) : Sem Flow) (SP X pins D) X.xe s4) X.xe { s1 with heap := g2 } := by
          rw [fr]
          refine HandSPX.setFlight_upZ fly fun g4 held us4 => ?_
          refine wpAny_throw (out _ _ ?_)
          refine ⟨x, gr, s0, pins, τ, G, cl, dd, rfl, I0, ng, (us.trans us2).trans us4, ?_, nx, eos, bare, w⟩
          rw [st]
          exact .inr (.inr held)
        first
          | exact wpAny_bind leave
          | exact wpAny_bind (wpAny_pure (wpAny_bind leave))
      | @cons xn c t b bs p q hs3 l3 nm suite more ih =>
        intro w
        obtain ⟨yes, match_, yesW, noW⟩ := w
        refine wpAny_handleBy_cons (codeAny_handlers_test ?_) (by intro z; cases z)
        have ty : PySem.W.Looks (model X.prog X.w) g2 (typeOf (.ref x)) cl := fun A Q E s4 k z => wpAny_typeOf_ref (k _ _ gx) (by rw [zx.1]; exact z)
        have looks := PySem.W.exm_one (M := model X.prog X.w) I3.kIn ty match_
        have nameOf : ∀ {Q : Value → Shared → Prop} {E : Value → Shared → Prop}, Q c { s1 with heap := g2 } → wpAny (model X.prog X.w) (X.A.mark (some (.ref x))) (eval (.Name xn p) X.env) Q E { s1 with heap := g2 } := by
          intro Q E z
          obtain ⟨gl, db, m | ⟨m, bt, nn⟩⟩ := nm
          · exact ld_glob (X := X.suite x ((x, ob) :: (X.pn ++ pins))) inS gl m z db
          · exact ld_blt (X := X.suite x ((x, ob) :: (X.pn ++ pins))) inS gl m bt z nn db
        refine nameOf (looks.here ?_)
        cases yes with
        | false =>
          show wpAny _ X.A (handleBy (.ref x) X.env hs3) _ _ _
          exact ih (noW rfl)
        | true =>
          refine codeAny_handlers_suite_as ?_
          refine HandSPX.lands_againZ fly fun g4 fly4 us4 => ?_
          have I4 : Inv X pins τ G { s1 with heap := g4 } := I0.landed ng fly4.1 ((us.trans us2).trans us4) eos bare
          obtain ⟨ob4, vs4, gx4, zx4, dx4⟩ := fly4.there
          have inS4 := I4.suite gx4 dx4 nx xL xF
          refine store_ok (X := X.suite x ((x, ob4) :: (X.pn ++ pins))) (v := .ref x) inS4 nd at_ (.inl lc) rfl (fun s5 inS5 => ?_) (.inr lc)
          refine wpAny_mono ((suite x ob4 cl dd (X.pn ++ pins) zx4 ⟨_, dx4⟩).run [] s5 _ G _ inS5 (yesW rfl x nx)) (fun fl s6 got => ?_) (fun _ _ z => False.elim z)
          have gone : ∀ {τ6 : L2.St} {G6 : Hp} {Q : Shared → Prop}, Inv (X.suite x ((x, ob4) :: (X.pn ++ pins))) [] τ6 G6 s6 → (∀ s7, Inv X pins (τ6.set i none) G6 s7 → Q s7) →
              wpAny (model X.prog X.w) X.A (do bindName X.env n .none; unbindBehindTheSuite X.env n q) (fun _ s7 => Q s7) X.xe s6 := by
            intro τ6 G6 Q in6 z
            exact gone_ok (in6.unsuite okX) nd at_ lc z
          cases fl with
          | ret u =>
            obtain ⟨v6, τ6, G6, in6, r6, z⟩ := got
            exact gone in6 fun s7 I7 => ⟨_, _, _, I7, r6, z⟩
          | next =>
            obtain ⟨τ6, G6, in6, z⟩ := got
            exact gone in6 fun s7 I7 => ⟨_, _, I7, z⟩
          | brk =>
            obtain ⟨τ6, G6, in6, z⟩ := got
            exact gone in6 fun s7 I7 => ⟨_, _, I7, z⟩
          | cont =>
            obtain ⟨τ6, G6, in6, z⟩ := got
            exact gone in6 fun s7 I7 => ⟨_, _, I7, z⟩
    exact walkC cs want2
  refine wpAny_mono ((hb (wAll X.K i Wo D l) (X.pn ++ pins) after caught PassesOwn.looking).run [] s σ H D (I.toTry _) want) (fun fl s1 got => ?_) (fun _ _ z => z)
  cases fl with
  | ret u =>
    obtain ⟨v, τ, G, I2, r2, z⟩ := got
    exact ⟨v, τ, G, I2.ofTry okX, r2, z⟩
  | next =>
    obtain ⟨τ, G, I2, z⟩ := got
    exact wpAny_execs_nil ⟨τ, G, I2.ofTry okX, z⟩
  | brk =>
    obtain ⟨τ, G, I2, z⟩ := got
    exact ⟨τ, G, I2.ofTry okX, z⟩
  | cont =>
    obtain ⟨τ, G, I2, z⟩ := got
    exact ⟨τ, G, I2.ofTry okX, z⟩
end
/-! ### isinstance of the error that a suite holds, with a dict or without -/
def rIsH (K : PySem.W.Frag) (a : Addr) (cls : Value) (d : Option Addr) : List V → Hp → VK → Prop := fun xs H Q => ∃ (C : Addr) (c : V) (cv : Value) (b : Bool), xs = [.ref a, c] ∧ ClsV c cv ∧ cls = .ref C ∧ ExcC K C ∧
  (∀ dx, d = some dx → ∃ fs, H dx = some (.xd fs)) ∧ PySem.W.kitOne K (.ref C) cv = some b ∧ Q (.bl b) H
theorem call_isH {X : Cx} {a : Addr} {cls : Value} {d : Option Addr} {oe : Obj} {pn : List (Addr × Obj)} (hz : Zc cls d oe) (hf : ∃ vs, oe.data = .fields vs) : CallR (X.suite a ((a, oe) :: pn)) (.builtin "isinstance") (rIsH X.K a cls d) := by
  intro pins s σ H xs us Q I r h
  obtain ⟨C, c, cv, b, rfl, k, rfl, T, hd, e, q⟩ := h
  obtain ⟨u1, u2, rfl, r1, r2⟩ := vals2 r
  have e2 := k.eq r2
  subst e2
  cases (show u1 = Value.ref a from r1)
  obtain ⟨ha, _⟩ := I.pin (a, oe) (List.mem_append_left _ List.mem_cons_self)
  obtain ⟨vs, hv⟩ := hf
  have nocls : PySem.W.notCls oe = true := by unfold PySem.W.notCls; rw [hv] <;> rfl
  obtain ⟨od, J⟩ : ∃ od, PySem.W.InstAt s.heap a oe C od := by
    cases d with
    | none => exact ⟨none, ha, hz.1, nocls, by rw [hz.2]; trivial⟩
    | some dx =>
      obtain ⟨fs, hx⟩ := hd dx rfl
      obtain ⟨mA, hns, _⟩ := (show ObjOk X.prog X.w H s.heap dx (.xd fs) from I.hok dx _ hx)
      obtain ⟨od, hod, _⟩ := lookIn_ns hns
      exact ⟨some od, ha, hz.1, nocls, by rw [hz.2]; exact hod⟩
  have hcl : (PySem.W.clsIn X.K C).isSome = true := by
    obtain ⟨cd, hc, _⟩ := PySem.W.any_some T.hd
    rw [hc]
    rfl
  exact PySem.W.kia_one (PySem.W.kitx_exc hcl T.hg T.hk T.hs T.ha T.hn T.ht T.hm) I.kIn J e (fun z => nomatch z) fun tk => ⟨.bl b, H, I.tok tk, rfl, q⟩
end HX

set_option Elab.async false
set_option linter.all false
set_option maxRecDepth 100000
set_option maxHeartbeats 2000000
/-! errors whose context is None (HandS.ExcCtx), and unpacking within an except suite -/
namespace HX
open PySem PySem.Spec PyProof.Rows L2
theorem takes0N {X : Cx} : L2N.Takes X (fun _ _ _ _ => False) := fun _ _ x => by
  obtain ⟨_, _, _, _, _, _, _, _, _, _, _, _, _, _, _, _, z⟩ := x
  exact z.elim
section
variable {P : Program} {w : World} {K : PySem.W.Frag} {mg : Str → Option Value} {base : Heap}
theorem okXN {x qual : Str} {st : Stmt} {f : Addr} {fd : FuncData} {N ps : List Str} {k : Nat} {sp : Sp} (F : Fun K x qual st f fd) (S : FnScope N ps (defScope st)) (len : ∀ vs H Q E, sp vs H Q E → vs.length = ps.length)
    (hbody : ∀ (cdv : Value) (A : Around) (outer : List Env) (s : Shared) (H : Hp) (vs : List V) (Q : VK) (E : XK), Room k (A.deeper (envOfC qual (defScope st) s.heap.objs.size f cdv)) → sp vs H Q E →
      ∃ t, PSs (cxOf (L2N.CX P w) P w K mg base N qual (defScope st) f cdv A outer s H E) (defBody st) t ∧ t { nx := fun _ H' => Q .non H', rt := Q } (start N vs) H) : FnOk P w K mg base (L2N.CX P w) (k + 1) f fd ps sp := by
  obtain ⟨oc, od, kV, doc, pm, an, cdv, ct, osl, rfl, lk, hcd⟩ := F.ex
  exact fn_of lk hcd S len fun A outer s H vs Q E hr hsp => hbody cdv A outer s H vs Q E hr hsp
end
section
variable {X : Cx} {nmE fld : Str} {C fI : Addr}
theorem pmk_errN {a : Expr} {ta : TA} {p pos : Pos} {k : Nat} (T : SupX.ErrTxt X.prog X.K X.mg nmE fld C fI) (hr : Room k X.A) (ha : PA X [a] ta) (hg : Gl X nmE) (hdb : (nmE == ("__debug__" : Str)) = false)
    (he : starEach (a :: []) X.env = (false, eval a X.env) :: starEach [] X.env := by rfl) (hpl : (backTo pos (starEach [] X.env)).any (·.1) = false := by rfl) :
    L2N.PMk X (.Call (.Name nmE p) [a] [] pos) (tMkErr fld C ta) := by
  intro pins s σ H Q I h
  refine wpAny_Call_Name_kw (ld_glob I hg T.gC ?_ hdb)
  refine PySem.W.callWith_K (h₀ := X.base) I.ok.mod.kin T.kC (thn (ha.run pos pins s σ H _ I h) fun us s1 hh => ?_) he hpl
  obtain ⟨vs, H1, I1, r1, v, ev, q1⟩ := hh
  subst ev
  refine ⟨I1.kIn, ?_⟩
  cases r1 with
  | cons rv rn =>
    rename_i v' us'
    cases rn
    show wpAny _ _ (call (.ref C) [v']) _ _ _
    have G1 := gnd_of I1
    obtain ⟨hp, g, dr, tk, os⟩ := s1
    refine wpAny_call (SupX.sup_made T I1.kIn G1 (by have := hr.dp; omega) fun h' tk' e d M => ?_)
    show L2N.MkP X pins σ Q (.ref e) ⟨h', g, dr, tk', os⟩
    obtain ⟨t1, hoe⟩ := M.obj
    have hns := M.ns
    obtain ⟨G', g1, g2⟩ := restrict h' fun b => decide (b ≠ e)
    have gk : ∀ b, b ≠ e → G'.get? b = h'.get? b := fun b hb => g1 b (decide_eq_true hb)
    have ge : G'.get? e = none := g2 e (by simp)
    have old : ∀ b o, hp.get? b = some o → G'.get? b = some o := fun b o q => (gk b (Nat.ne_of_lt (Nat.lt_of_lt_of_le (Heap.lt_size q) M.new))).trans (M.keep b o q)
    have ob : ObjOk X.prog X.w (upd H1 d (.xd [(fld, v)])) G' d (.xd [(fld, v)]) :=
      ⟨_, hns.at (fun o q => (gk d M.dne).trans q), fun f => relO_fld rv f⟩
    have J : Inv X pins σ (upd H1 d (.xd [(fld, v)])) ⟨G', g, dr, tk', os⟩ := I1.laid (t' := tk') old M.dbig ob
    refine ⟨e, _, _, ⟨G', g, dr, tk', os⟩, _, .ref C, some d, rfl, J, fun b o q => ?_, ge, hoe, ⟨rfl, rfl, fun vs q => by cases q; rfl⟩, rfl, rfl, ?_, rfl, I1.bare, raises_own T.exC T.tyC, q1 d (I1.hok.fresh M.dbig)⟩
    · by_cases hb : b = e
      · have q' : G'.get? b = some o := q
        rw [hb, ge] at q'; cases q'
      · exact (gk b hb).symm.trans q
    · rw [upd_ne (Ne.symm M.dne)]
      exact I1.hok.fresh M.new
theorem ps_raiseErrN {a : Expr} {ta : TA} {W : WX} {p pos pos2 : Pos} {k : Nat} (hc : X.calm = true) (T : SupX.ErrTxt X.prog X.K X.mg nmE fld C fI) (hr : Room k X.A) (tk : L2N.Takes X W) (ha : PA X [a] ta) (hg : Gl X nmE := by rfl) (hdb : (nmE == ("__debug__" : Str)) = false := by decide)
    (he : starEach (a :: []) X.env = (false, eval a X.env) :: starEach [] X.env := by rfl) (hpl : (backTo pos (starEach [] X.env)).any (·.1) = false := by rfl) :
    PS X (.Raise (some (.Call (.Name nmE p) [a] [] pos)) none pos2) (tRaiseErr fld C W ta) 
  := L2N.ps_raise hc tk (pmk_errN T hr ha hg hdb he hpl)

end
section
variable {prog : Program} {w : World} {A : Around} {E : Value → Shared → Prop} {s : Shared}
open HotX
theorem tup_end_hot {it t x1 : Addr} {i : Nat} {items : Array Value} {Q : Option Value → Shared → Prop} (hot : HotAt A x1 s.heap) (ne : x1 ≠ it) (hit : IsTupIter s.heap it t i) (ht : IsTup s.heap t items) (hx : items[i]? = none)
    (hQ : ∀ h', Heap.ExtBut it s.heap h' → Q none { s with heap := h' }) : wpAny (model prog w) A (pyNext (.ref it)) Q E s := by
  obtain ⟨o, ho, hc, hd⟩ := id hit
  obtain ⟨ol, hol, _, nl, hdl⟩ := ht
  obtain ⟨hh, o1, vs1, h1, d1, c1⟩ := hot
  unfold pyNext
  refine wpAny_bind (wpAny_attempt (wpAny_callSpecial?_slot (name := Str.ofString "__next__") hit.typeIs slot_tupleiter_next
    (wpAny_call_entry slot_tupleiter_next hit.typeIs entry_tupleiter_next ?_ (args_tupleiter_next _))))
  show wpAny _ _ (field (.ref it) 0 >>= _) _ _ s
  refine wpAny_bind (wpAny_field ho hd (x := .ref t) rfl ?_)
  show wpAny _ _ (if (Value.ref t == Value.none) = true then _ else _) _ _ s
  rw [if_neg (show ¬ ((Value.ref t == Value.none) = true) from Bool.false_ne_true)]
  show wpAny _ _ (field (.ref it) 1 >>= _) _ _ s
  refine wpAny_bind (wpAny_field ho hd (x := .int i 0) rfl ?_)
  show wpAny _ _ (seqItems? (.ref t) >>= _) _ _ s
  refine wpAny_bind (wpAny_seqItems hol hdl ?_)
  simp only [Int.toNat_natCast, hx]
  refine wpAny_bind (wpAny_rule (wpAny_bind (wpAny_setField ho hd (by simp) ?_)))
  have g1 : ∀ f, (s.heap.update it f).get? x1 = some o1 := fun f => (Heap.get?_update_other _ _ (Ne.symm ne)).trans h1
  show wpAny _ _ (newExc (.type "StopIteration") [] >>= _) _ _ _
  refine wpAny_bind ?_
  simp only [newExc, newTuple]
  refine wpAny_bind (wpAny_newObj_type ?_ (by size_fits))
  refine wpAny_bind (m := firstArgMember _ _) (wpAny_of_eq (a := Value.none) (by first | rfl | (simp only [firstArgMember]; rfl)) ?_)
  refine wpAny_newObj_type ?_ (by size_fits)
  refine raiseNew_hot ⟨hh, o1, vs1, Heap.get?_push_of_some _ (Heap.get?_push_of_some _ (g1 _)), d1, c1⟩ (Nat.ne_of_lt (Heap.lt_size (Heap.get?_push_of_some _ (g1 _)))) (Heap.get?_push_size _ rfl) rfl (by first | (simp; done) | (simp; omega) | (simp only [Array.size_append]; simp; omega)) ?_
  refine wpAny_bind (wpAny_isInstance (T := "StopIteration") (b := true) ⟨_, Heap.get?_update_self _ (Heap.get?_push_size _ rfl) rfl, rfl⟩ isSubtype_stop ?_)
  refine wpAny_pure (hQ _ fun b ob nb e => ?_)
  have e1 : ∀ f, (s.heap.update it f).get? b = some ob := fun f => (Heap.get?_update_other _ _ (Ne.symm nb)).trans e
  rw [Heap.get?_update_other _ _ (Nat.ne_of_gt (Heap.lt_size (Heap.get?_push_of_some _ (e1 _))))]
  exact Heap.get?_push_of_some _ (Heap.get?_push_of_some _ (e1 _))
theorem unpack_hot {t x1 : Addr} {items : Array Value} {Q : List Value → Shared → Prop} (hot : HotAt A x1 s.heap) (ht : IsTup s.heap t items)
    (hQ : ∀ h', Heap.ExtBut s.heap.objs.size s.heap h' → Q items.toList { s with heap := h' }) : wpAny (model prog w) A (unpackItems (.ref t) items.size none) Q E s := by
  have hlt : t ≠ s.heap.objs.size := by obtain ⟨o, ho, _⟩ := ht; exact Nat.ne_of_lt (Heap.lt_size ho)
  obtain ⟨hh, o1, vs1, h1, d1, c1⟩ := hot
  have hx1 : x1 ≠ s.heap.objs.size := Nat.ne_of_lt (Heap.lt_size h1)
  unfold unpackItems
  refine wpAny_bind ?_
  unfold notIterableAtAll
  refine wpAny_bind (wpAny_specialOf ht.typeIs slot_tuple_iter.lookup (wpAny_pure ?_))
  simp only [Bool.false_eq_true, if_false]
  refine wpAny_bind (wpAny_holding (iter_tuple ht ?_))
  refine wpAny_bind (wpAny_holding (draw_tuple hlt items.size 0 _ _ ⟨_, Heap.get?_push_size _ rfl, rfl, rfl⟩ (ht.push _) (by omega) fun h₁ hit₁ hs₁ => ?_))
  have all : List.take items.size (List.drop 0 items.toList) = items.toList := by
    rw [List.drop_zero]
    exact List.take_of_length_le (by simp)
  rw [all, if_neg (by simp)]
  have ht₁ : IsTup h₁ t items := (ht.push _).extBut hs₁.extBut hlt
  refine wpAny_bind (wpAny_holding (tup_end_hot ⟨hh, o1, vs1, hs₁.extBut x1 o1 hx1 (Heap.get?_push_of_some _ h1), d1, c1⟩ hx1 hit₁ ht₁ (by simp) fun h₂ he₂ => ?_))
  simp only [Option.isSome_none, Bool.false_eq_true, if_false]
  exact wpAny_pure (hQ _ fun b o hb e => he₂ b o hb (hs₁.extBut b o hb (Heap.get?_push_of_some _ e)))
end
/-- a, b = x, y within an except suite -/
theorem ps_parH {X : Cx} {i j : Nat} {x y : Str} {a b : Expr} {ta : TA} {px py pt pos : Pos} {kt k2 pt2} (hot : L2H.HotC X) (hN : X.N.Nodup) (hi : X.N[i]? = some x) (hj : X.N[j]? = some y) (hij : i ≠ j)
    (hx : X.env.scope.names.lookup x = some .local) (hy : X.env.scope.names.lookup y = some .local) (ha : PA X [a, b] ta)
    (hw : swappedStores [.Tuple [.Name x px, .Name y py] kt pt] (.Tuple [a, b] k2 pt2) X.env = pure (some [x, y]))
    (hs : swapsWithSole [.Tuple [.Name x px, .Name y py] kt pt] (.Tuple [a, b] k2 pt2) pos.line X.env = pure false := by rfl) :
    PS X (.Assign [.Tuple [.Name x px, .Name y py] kt pt] (.Tuple [a, b] k2 pt2) pos) (tPar i j ta) := by
  refine ⟨fun pins s σ H D I h => ?_⟩
  rw [exec_Assign_arm]
  refine wpAny_bind (wpAny_standAt ?_)
  rw [hs]
  refine wpAny_bind (wpAny_pure ?_)
  rw [if_neg (by decide)]
  refine wpAny_bind (Tuple_ (thn (ha.run _ pins s σ H _ I h) fun us s1 ⟨vs, H1, I1, r1, q1⟩ => ?_))
  obtain ⟨v, w, rfl, q1⟩ := q1
  obtain ⟨u1, u2, rfl, rv, rw'⟩ := vals2 r1
  refine wpAny_newObj_type ?_ (by show 2 ≤ sizeLine; decide)
  have I2 : Inv X pins σ H1 { s1 with heap := s1.heap.push { cls := .type "tuple", data := .seq [u1, u2].toArray } } := I1.kept (t' := s1.toks) fun b o e => Heap.get?_push_of_some _ e
  rw [hw]
  refine wpAny_bind (wpAny_pure ?_)
  obtain ⟨x1, ht⟩ := hot.at I2
  show wpAny (model X.prog X.w) X.A (do rule "assign.swapped-stores"; let items ← unpackItems (.ref s1.heap.objs.size) 2 none; assignInOrder [fun v => bindName X.env y v, fun v => bindName X.env x v] items.reverse; pure Flow.next) _ _ _
  refine wpAny_bind (wpAny_rule (wpAny_bind (unpack_hot (items := #[u1, u2]) ht (IsTup.new s1.heap _) fun h' hx' => ?_)))
  have I3 := I2.kept (h' := h') (t' := s1.toks) fun b o e => hx' b o (Nat.ne_of_lt (Heap.lt_size e)) e
  show wpAny _ _ (assignInOrder [fun v => bindName X.env y v, fun v => bindName X.env x v] [u2, u1] >>= fun _ => pure Flow.next) _ _ _
  refine wpAny_bind (assignInOrder_cons (wpAny_bindName (store_ok I3 hN hj (.inl hy) rw' (fun s2 I4 => ?_) (.inr hy))))
  refine assignInOrder_cons (wpAny_bindName (store_ok I4 hN hi (.inl hx) rv (fun s3 I5 => assignInOrder_nil (wpAny_pure ?_)) (.inr hx)))
  rw [List.set_comm _ _ (Ne.symm hij)] at I5
  exact ⟨_, H1, I5, q1⟩
theorem hotC_of {X : Cx} {a : Addr} {oe : Obj} {cls : Value} {d : Option Addr} {pn : List (Addr × Obj)} (hz : L2N.Zn cls d oe) (hf : ∃ vs, oe.data = .fields vs) : L2H.HotC (X.suite a ((a, oe) :: pn)) :=
  let ⟨vs, h⟩ := hf; ⟨(a, oe), ⟨rfl, vs, h, hz.2.2 vs h⟩, List.mem_cons_self⟩
inductive ClausesN (X : Cx) (n : Str) : List ExceptHandler → List (Value × (Addr → Value → Option Addr → TS)) → Prop
  | nil : ClausesN X n [] []
  | cons {x : Str} {c : Value} {t : Addr → Value → Option Addr → TS} {b : Stmt} {bs : List Stmt} {p q : Pos} {hs : List ExceptHandler} {l : List (Value × (Addr → Value → Option Addr → TS))} (nm : Names X x c)
      (body : ∀ (x : Addr) (ob : Obj) (cl : Value) (dd : Option Addr) (pn : List (Addr × Obj)), L2N.Zn cl dd ob → (∃ vs, ob.data = .fields vs) → PSs (X.suite x ((x, ob) :: pn)) (b :: bs) (t x cl dd)) (more : ClausesN X n hs l) :
      ClausesN X n (.ExceptHandler (some (.Name x p)) (some n) (b :: bs) q :: hs) ((c, t) :: l)
section
variable {X : Cx} {n : Str} {i : Nat} {body : List Stmt} {h1 : ExceptHandler} {hs : List ExceptHandler} {l : List (Value × (Addr → Value → Option Addr → TS))} {pos : Pos} {tb : WX → TS} {Wo : WX}
theorem ps_try_allN (st : X.stack = X.env :: X.outer) (fr : X.env.frame = some X.env.locals) (nd : X.N.Nodup) (at_ : X.N[i]? = some n) (lc : X.env.kindOf n = some .local) (out : L2N.Takes X Wo)
    (hb : ∀ (W : WX) (pn : List (Addr × Obj)) (xe : Value → Shared → Prop), L2N.Takes (X.tr pn xe) W → PassesOwn (model X.prog X.w) X.A X.env xe → PSs (X.tr pn xe) body (tb W)) (cs : ClausesN X n (h1 :: hs) l) :
    PS X (.Try body (h1 :: hs) [] [] pos) (fun D σ H => tb (wAll X.K i Wo D l) D σ H) := by
  constructor
  intro pins s σ H D I want
  have okX := I.ok
  have frs1 : X.A.frames = some (X.env :: X.outer) := okX.frames.trans (by rw [st])
  refine wpAny_Try_except ?_
  let after : Value → Shared → Prop := fun u s1 => wpAny (model X.prog X.w) X.A (noteFrame u X.env) (fun _ s2 =>
    wpAny (model X.prog X.w) X.A (setFlight u none) (fun _ s3 => wpAny (model X.prog X.w) X.A (handleBy u X.env (h1 :: hs)) (SP X pins D) X.xe s3) X.xe s2) X.xe s1
  have caught : L2N.Takes (X.tr (X.pn ++ pins) after) (wAll X.K i Wo D l) := by
    rintro u s1 ⟨x, gr, s0, pins2, τ, G, cl, dd, rfl, I2, ng, us, sk, nx, eos, bare, want2⟩
    have I0 : Inv X pins τ G s0 := I2.ofTry okX
    rw [show (X.tr (X.pn ++ pins) after).stack = X.env :: X.outer from st] at sk
    show wpAny (model X.prog X.w) X.A (noteFrame (.ref x) X.env) _ _ _
    refine L2N.Sky.land L2N.Zn.steady frs1 fr sk fun g2 fly us2 => ?_
    have I3 : Inv X pins τ G { s1 with heap := g2 } := I0.landed ng fly.1 (us.trans us2) eos bare
    obtain ⟨ob, vs, gx, zx, dx⟩ := fly.there
    have apart : x ∉ frs (X.env :: X.outer) := by
      intro m
      obtain ⟨_, o2, e2, nf⟩ := fly.2.2.1.mem m
      rw [gx] at e2
      cases e2
      exact nf _ dx
    have xL : x ≠ X.env.locals := fun z => apart (List.mem_filterMap.mpr ⟨X.env, List.mem_cons_self, by rw [fr, z]⟩)
    have xF : x ∉ X.fs := by
      intro m
      obtain ⟨e2, m2, q2⟩ := List.mem_filterMap.mp m
      exact apart (List.mem_filterMap.mpr ⟨e2, List.mem_cons_of_mem _ m2, q2⟩)
    have inS := I3.suite gx dx nx xL xF
    have walkC : ∀ {hs2 : List ExceptHandler} {l2 : List (Value × (Addr → Value → Option Addr → TS))}, ClausesN X n hs2 l2 → wAll X.K i Wo D l2 cl dd τ G →
        wpAny (model X.prog X.w) X.A (handleBy (.ref x) X.env hs2) (SP X pins D) X.xe { s1 with heap := g2 } := by
      intro hs2 l2 c2
      induction c2 with
      | nil =>
        intro w
        refine wpAny_handleBy_nil ?_
        obtain ⟨_, _, _, ob2, vs2, Tb, oTb, ts2, gx2, _, dx2, v1, _⟩ := id fly
        unfold PySem.passOn
        refine wpAny_bind (wpAny_field gx2 dx2 v1 ?_)
        have isnt : ¬ ((Value.ref Tb == Value.none) = true) := by simp
        rw [if_neg isnt]
        have leave : wpAny (model X.prog X.w) X.A (setFlight (.ref x) X.env.frame) (fun _ s4 => wpAny (model X.prog X.w) X.A (throw (.ref x) : Sem Flow) (SP X pins D) X.xe s4) X.xe { s1 with heap := g2 } := by
          rw [fr]
          refine HandSPX.setFlight_upZ fly fun g4 held us4 => ?_
          refine wpAny_throw (out _ _ ?_)
          refine ⟨x, gr, s0, pins, τ, G, cl, dd, rfl, I0, ng, (us.trans us2).trans us4, ?_, nx, eos, bare, w⟩
          rw [st]
          exact .inr (.inr held)
        first
          | exact wpAny_bind leave
          | exact wpAny_bind (wpAny_pure (wpAny_bind leave))
      | @cons xn c t b bs p q hs3 l3 nm suite more ih =>
        intro w
        obtain ⟨yes, match_, yesW, noW⟩ := w
        refine wpAny_handleBy_cons (codeAny_handlers_test ?_) (by intro z; cases z)
        have ty : PySem.W.Looks (model X.prog X.w) g2 (typeOf (.ref x)) cl := fun A Q E s4 k z => wpAny_typeOf_ref (k _ _ gx) (by rw [zx.1]; exact z)
        have looks := PySem.W.exm_one (M := model X.prog X.w) I3.kIn ty match_
        have nameOf : ∀ {Q : Value → Shared → Prop} {E : Value → Shared → Prop}, Q c { s1 with heap := g2 } → wpAny (model X.prog X.w) (X.A.mark (some (.ref x))) (eval (.Name xn p) X.env) Q E { s1 with heap := g2 } := by
          intro Q E z
          obtain ⟨gl, db, m | ⟨m, bt, nn⟩⟩ := nm
          · exact ld_glob (X := X.suite x ((x, ob) :: (X.pn ++ pins))) inS gl m z db
          · exact ld_blt (X := X.suite x ((x, ob) :: (X.pn ++ pins))) inS gl m bt z nn db
        refine nameOf (looks.here ?_)
        cases yes with
        | false =>
          show wpAny _ X.A (handleBy (.ref x) X.env hs3) _ _ _
          exact ih (noW rfl)
        | true =>
          refine codeAny_handlers_suite_as ?_
          refine HandSPX.lands_againZ fly fun g4 fly4 us4 => ?_
          have I4 : Inv X pins τ G { s1 with heap := g4 } := I0.landed ng fly4.1 ((us.trans us2).trans us4) eos bare
          obtain ⟨ob4, vs4, gx4, zx4, dx4⟩ := fly4.there
          have inS4 := I4.suite gx4 dx4 nx xL xF
          refine store_ok (X := X.suite x ((x, ob4) :: (X.pn ++ pins))) (v := .ref x) inS4 nd at_ (.inl lc) rfl (fun s5 inS5 => ?_) (.inr lc)
          refine wpAny_mono ((suite x ob4 cl dd (X.pn ++ pins) zx4 ⟨_, dx4⟩).run [] s5 _ G _ inS5 (yesW rfl x nx)) (fun fl s6 got => ?_) (fun _ _ z => False.elim z)
          have gone : ∀ {τ6 : L2.St} {G6 : Hp} {Q : Shared → Prop}, Inv (X.suite x ((x, ob4) :: (X.pn ++ pins))) [] τ6 G6 s6 → (∀ s7, Inv X pins (τ6.set i none) G6 s7 → Q s7) →
              wpAny (model X.prog X.w) X.A (do bindName X.env n .none; unbindBehindTheSuite X.env n q) (fun _ s7 => Q s7) X.xe s6 := by
            intro τ6 G6 Q in6 z
            exact gone_ok (in6.unsuite okX) nd at_ lc z
          cases fl with
          | ret u =>
            obtain ⟨v6, τ6, G6, in6, r6, z⟩ := got
            exact gone in6 fun s7 I7 => ⟨_, _, _, I7, r6, z⟩
          | next =>
            obtain ⟨τ6, G6, in6, z⟩ := got
            exact gone in6 fun s7 I7 => ⟨_, _, I7, z⟩
          | brk =>
            obtain ⟨τ6, G6, in6, z⟩ := got
            exact gone in6 fun s7 I7 => ⟨_, _, I7, z⟩
          | cont =>
            obtain ⟨τ6, G6, in6, z⟩ := got
            exact gone in6 fun s7 I7 => ⟨_, _, I7, z⟩
    exact walkC cs want2
  refine wpAny_mono ((hb (wAll X.K i Wo D l) (X.pn ++ pins) after caught PassesOwn.looking).run [] s σ H D (I.toTry _) want) (fun fl s1 got => ?_) (fun _ _ z => z)
  cases fl with
  | ret u =>
    obtain ⟨v, τ, G, I2, r2, z⟩ := got
    exact ⟨v, τ, G, I2.ofTry okX, r2, z⟩
  | next =>
    obtain ⟨τ, G, I2, z⟩ := got
    exact wpAny_execs_nil ⟨τ, G, I2.ofTry okX, z⟩
  | brk =>
    obtain ⟨τ, G, I2, z⟩ := got
    exact ⟨τ, G, I2.ofTry okX, z⟩
  | cont =>
    obtain ⟨τ, G, I2, z⟩ := got
    exact ⟨τ, G, I2.ofTry okX, z⟩
end
end HX

set_option Elab.async false
set_option linter.all false
set_option maxRecDepth 100000
set_option maxHeartbeats 2000000

namespace Kx
open PySem PySem.Spec PyProof.Rows L2 HX TL
open Evl (Ex)
local macro_rules | `(tactic| walk_at "len") => `(tactic| first | assumption | exact le_line (by assumption) | exact le_line (by omega) | exact le_line (Nat.le_trans (cutS_length _ _ _) (by omega)) | (rw [sizeLine_eq]; omega))
local macro_rules | `(tactic| walk_at "side") => `(tactic| first | assumption | ((try dsimp only); first | assumption | decide +kernel | omega | exact ⟨by decide, by decide⟩ | (left; decide) | (left; omega) | (refine Or.inl ⟨?_, ?_⟩ <;> omega) | (refine Or.inr ⟨?_, ?_⟩ <;> omega)))
local macro_rules | `(tactic| walk_at "heap") => `(tactic| first | assumption | exact upd_same | exact Or.inl (by assumption) | exact Or.inl upd_same)
local macro_rules | `(tactic| walk_at "item") => `(tactic| first | exact rfl | exact atI_nat (j := 0) rfl | exact atI_nat (j := 1) rfl | exact atI_nat (j := 2) rfl | assumption)
local macro_rules | `(tactic| walk_at "rd") => `(tactic| repeat (first
  | ((with_reducible refine' go_var ?hv ?_); (case hv => exact rfl))
  | with_reducible refine' go_c ?_
  | with_reducible refine' go_op ?_
  | with_reducible refine' go_seq ?_
  | with_reducible refine' go_asg ?_
  | with_reducible refine' go_name ?_
  | with_reducible refine' go_cons ?_
  | with_reducible refine' go_nil ?_
  | with_reducible refine' go_cb ?_
  | with_reducible refine' go_call ?_
  | with_reducible refine' go_ifS ?_
  | with_reducible refine' go_test ?_
  | with_reducible refine' go_bl ?_
  | with_reducible refine' go_ret ?_
  | with_reducible refine' go_I0 ?_
  | ((with_reducible refine' go_I ?cc ?_); (case cc => walk_at "side"))
  | ((with_reducible refine' go_ixL ?hh ?hk ?_); (case hh => walk_at "heap"); (case hk => walk_at "item"))
  | ((with_reducible refine' go_ixT ?hh ?hk ?_); (case hh => walk_at "heap"); (case hk => walk_at "item"))
  | ((with_reducible refine' go_lenL ?hh ?_); (case hh => walk_at "heap"))
  | ((with_reducible refine' go_lenT ?hh ?_); (case hh => walk_at "heap"))
  | ((with_reducible refine' go_setL ?hh ?hk ?_); (case hh => walk_at "heap"); (case hk => walk_at "item"))
  | with_reducible refine' go_abs ?_
  | with_reducible refine' go_max ?_
  | with_reducible refine' go_min ?_
  | with_reducible refine' go_int ?_
  | with_reducible refine' go_intB ?_
  | (with_reducible refine' go_eq rfl ?_)
  | (with_reducible refine' go_ne rfl ?_)
  | with_reducible refine' go_isN ?_
  | with_reducible refine' go_notN ?_
  | with_reducible refine' go_if ?_
  | with_reducible refine' go_sub ?_
  | with_reducible refine' go_par ?_
  | with_reducible refine' go_sl ?_
  | with_reducible refine' go_part ?_
  | with_reducible refine' go_pint ?_
  | with_reducible refine' go_nopart ?_
  | ((with_reducible refine' go_lenL ?hh ?_); (case hh => walk_at "heap"))
  | ((with_reducible refine' go_lenT ?hh ?_); (case hh => walk_at "heap"))
  | ((with_reducible refine' go_lenS ?hh ?_); (case hh => assumption))
  | with_reducible refine' go_gcons ?_
  | with_reducible refine' go_gnil ?_
  | with_reducible refine' go_kw ?_
  | with_reducible refine' go_par2 ?_
  | with_reducible refine' go_next ?_
  | with_reducible refine' go_drop ?_
  | with_reducible refine' go_and ?_
  | with_reducible refine' go_or ?_
  | with_reducible refine' go_not ?_
  | with_reducible refine' go_B ?_
  | with_reducible refine' go_andV ?_
  | with_reducible refine' go_orV ?_
  | with_reducible refine' go_notV ?_
  | with_reducible refine' go_chain ?_
  | with_reducible refine' go_un ?_
  | with_reducible refine' go_U ?_
  | with_reducible refine' go_bm ?_
  | with_reducible refine' go_tup ?_
  | with_reducible refine' go_lst ?_
  | with_reducible refine' go_forR1 ?_
  | with_reducible refine' go_forR2 ?_
  | with_reducible refine' go_forL ?_
  | with_reducible refine' go_forT ?_
  | with_reducible refine' go_forE ?_
  | with_reducible refine' go_lcR1 ?_
  | with_reducible refine' go_lcL ?_
  | with_reducible refine' go_lcT ?_
  | ((with_reducible refine' go_tyL ?hh ?_); (case hh => walk_at "heap"))
  | ((with_reducible refine' go_new ?hz ?_); (case hz => exact Nat.le_of_ble_eq_true rfl))
  | with_reducible refine' go_par3 ?_
  | with_reducible refine' go_three ?_
  | with_reducible refine' go_m1 ?_
  | with_reducible refine' go_isS ?_
  | with_reducible refine' go_rSw ?_
  | with_reducible refine' go_rFnd ?_
  | ((with_reducible refine' go_rPrt (by decide +kernel) ?hz ?_); (case hz => walk_at "len"))
  | ((with_reducible refine' go_rSpl (by decide +kernel) ?hz ?_); (case hz => walk_at "len"))
  | ((with_reducible refine' go_rLenS ?hz ?_); (case hz => walk_at "len"))
  | ((with_reducible refine' go_slS ?hz ?_); (case hz => walk_at "len"))
  | with_reducible refine' go_sgn ?_
  | with_reducible refine' go_nsg ?_
  | with_reducible refine' go_lcS ?_
  | (with_reducible refine' ⟨_, rfl, ?_⟩)
  ))
--MACEND
/-! ### a def that may raise, called by its name -/
def HasX (P : Program) (w : World) (K : PySem.W.Frag) (mg : Str → Option Value) (base : Heap) (k : Nat) (x : Str) (sp : Sp) : Prop :=
  ∃ (f : Addr) (fd : FuncData) (ps : List Str), FnOk P w K mg base (L2N.CX P w) k f fd ps sp ∧ mg x = some (.ref f) ∧ PySem.W.keepIn K (.ref f) = true ∧ Binds K fd ps []
section
variable {X : Cx} {k n : Nat} {sp : Sp} {x : Str} {p pos : Pos} {e : Expr} {es : List Expr} {t : TA} {E : L2.St → XK}
theorem pe_hsS (h : HasX X.prog X.w X.K X.mg X.base k x sp) (hr : Room n X.A) (hg : Gl X x) (hx : ∀ σ, PassesAt (L2N.CX X.prog X.w) X σ (E σ)) (ha : PA X (e :: es) t) (hkn : k ≤ n := by decide) (hdb : (x == ("__debug__" : Str)) = false := by decide)
    (he : starEach (e :: es) X.env = (false, eval e X.env) :: starEach es X.env := by rfl) (hpl : (backTo pos (starEach es X.env)).any (·.1) = false := by rfl) :
    PE X (.Call (.Name x p) (e :: es) [] pos) (tCallS sp E t) := by
  obtain ⟨f, fd, ps, F, hm, hk, hb⟩ := h
  exact pe_callS F (hr.mono hkn) hg hm hk hb hx ha hdb he hpl
end
theorem go_callS {sp : Sp} {E : L2.St → XK} {t : TA} {σ : L2.St} {H : Hp} {Q : VK} (h : t σ H fun vs H1 => sp vs H1 Q (E σ)) : tCallS sp E t σ H Q := h
theorem go_raiseErr {fld : Str} {C : Addr} {W : WX} {ta : TA} {D : Ends} {σ : L2.St} {H : Hp} (h : ta σ H fun vs H1 => ∃ v, vs = [v] ∧ ∀ d, H1 d = none → W (.ref C) (some d) σ (upd H1 d (.xd [(fld, v)]))) : tRaiseErr fld C W ta D σ H := h
/-! ### lists of tuples -/
inductive Tps (H : Hp) : List V → List (List V) → Prop
  | nil : Tps H [] []
  | cons {a : Addr} {t : List V} {xs : List V} {ts : List (List V)} : H a = some (.tup t) → Tps H xs ts → Tps H (.ref a :: xs) (t :: ts)
theorem Tps.ex {H H' : Hp} (e : Ex H H') : ∀ {xs ts}, Tps H xs ts → Tps H' xs ts
  | _, _, .nil => .nil
  | _, _, .cons h t => .cons (e _ _ h) (t.ex e)
theorem Tps.mut {H : Hp} {l : Addr} {ys : List V} {o : HO} (hl : H l = some (.lst ys)) : ∀ {xs ts}, Tps H xs ts → Tps (upd H l o) xs ts
  | _, _, .nil => .nil
  | _, _, .cons h t => .cons (by rw [upd_ne fun z => by rw [z, hl] at h; cases h]; exact h) (t.mut hl)
theorem Tps.snoc {H : Hp} {a : Addr} {t : List V} (h : H a = some (.tup t)) : ∀ {xs ts}, Tps H xs ts → Tps H (xs ++ [.ref a]) (ts ++ [t])
  | _, _, .nil => .cons h .nil
  | _, _, .cons g r => .cons g (r.snoc h)
theorem Tps.len {H : Hp} : ∀ {xs ts}, Tps H xs ts → xs.length = ts.length
  | _, _, .nil => rfl
  | _, _, .cons _ t => by simp [t.len]
theorem Tps.get {H : Hp} : ∀ {xs ts} {i : Nat} {v : V}, Tps H xs ts → xs[i]? = some v → ∃ a t, ts[i]? = some t ∧ v = .ref a ∧ H a = some (.tup t)
  | _, _, _, _, .nil, e => by simp at e
  | _, _, 0, _, .cons h t, e => by simp at e; exact ⟨_, _, rfl, e.symm, h⟩
  | _, _, i + 1, v, .cons h t, e => by
    obtain ⟨a, t', h1, h2, h3⟩ := Tps.get (i := i) (v := v) t (by simpa using e)
    exact ⟨a, t', by simpa using h1, h2, h3⟩
theorem stg_dq {G : Hp} {q : Addr} {s : Stg} (h : G q = some (.tup s.vals)) : Dq G (.ref q) s.d := by
  cases s with
  | mix lo => exact .tup (.inl h) (.cons (.str _) (.cons (.int _) .nil))
  | dial x => exact .tup (.inl h) (.cons (.str _) (.cons (.int _) .nil))
  | pass lo hi => exact .tup (.inl h) (.cons (.str _) (.cons (.int _) (.cons (.int _) .nil)))
theorem lk_dq {G : Hp} {q : Addr} {l : Lk} (h : G q = some (.tup l.vals)) : Dq G (.ref q) l.d := by
  obtain ⟨d, b⟩ := l
  cases b with
  | none => exact .tup (.inl h) (.cons (.int _) (.cons .non (.cons .non .nil)))
  | some b => exact .tup (.inl h) (.cons (.int _) (.cons (.int _) (.cons (.int _) .nil)))
theorem tps_stgs {G : Hp} : ∀ {xs : List V} {ss : List Stg}, Tps G xs (ss.map Stg.vals) → DqAll G xs (ss.map Stg.d)
  | _, [], h => by cases h; exact .nil
  | _, s :: ss, h => by cases h with | cons h t => exact .cons (stg_dq h) (tps_stgs t)
theorem tps_lks {G : Hp} : ∀ {xs : List V} {ls : List Lk}, Tps G xs (ls.map Lk.vals) → DqAll G xs (ls.map Lk.d)
  | _, [], h => by cases h; exact .nil
  | _, s :: ss, h => by cases h with | cons h t => exact .cons (lk_dq h) (tps_lks t)
/-! ### where the dial stage stands -/
def dialAt : List Stg → Nat → Option Int
  | [], _ => none
  | s :: ss, i => if s.isDial then some i else dialAt ss (i + 1)
theorem dialAt_none : ∀ (ss : List Stg) (i : Nat), dialAt ss i = none ↔ dials ss = 0
  | [], i => by simp [dialAt, dials]
  | s :: ss, i => by
    have ih := dialAt_none ss (i + 1)
    rw [dialAt]
    unfold dials at ih ⊢
    cases h : s.isDial with
    | true => simp [h]
    | false => rw [if_neg (by simp), ih]; simp [h]
def spDialAt : Sp := fun vs H Q _ => ∃ x ss, vs = [x] ∧ Dq H x (.list (ss.map Stg.d)) ∧ ∀ H', Ex H H' → Q (optV (dialAt ss 0)) H'
def words (t : Str) : List (List Nat) := (Txt.split t (Str.ofString " ")).map tl
def spWords (C : Addr) : Sp := fun vs H Q E => ∃ x d, vs = [x] ∧ Dq H x d ∧ (∀ t, d = .str t → t.length ≤ 1000000 ∧ ∀ p H', Ex H H' → H p = none → H' p = some (.lst ((Txt.split t (Str.ofString " ")).map V.str)) → Q (.ref p) H') ∧
  (pStr d = false → ∀ H' dd, Ex H H' → H dd = none → H' dd = some (.xd [("word", .non)]) → E (.ref C) (some dd) H')
section
variable {P : Program} {w : World} {K : PySem.W.Frag} {mg : Str → Option Value} {base : Heap} {tD tM tS tL : Tok} {CS fI : Addr}
theorem dqaS_get {H : Hp} : ∀ {vs : List V} {ss : List Stg} {i : Nat} {v : V}, DqAll H vs (ss.map Stg.d) → vs[i]? = some v → ∃ s, ss[i]? = some s ∧ Dq H v s.d := fun {vs ss i v} h e => by
  obtain ⟨d, hd, hv⟩ := h.get e
  rw [List.getElem?_map] at hd
  cases hs : ss[i]? with
  | none => rw [hs] at hd; cases hd
  | some s => rw [hs] at hd; cases hd; exact ⟨s, rfl, hv⟩
theorem dialAt_drop {ss : List Stg} {i : Nat} {s : Stg} (h : ss[i]? = some s) (hd : s.isDial = false) : dialAt (ss.drop i) i = dialAt (ss.drop (i + 1)) (i + 1) := by
  obtain ⟨hlt, e⟩ := List.getElem?_eq_some_iff.mp h
  rw [List.drop_eq_getElem_cons hlt, e, dialAt, hd]
  rfl
theorem dialAt_hit {ss : List Stg} {i : Nat} {s : Stg} (h : ss[i]? = some s) (hd : s.isDial = true) : dialAt (ss.drop i) i = some (i : Int) := by
  obtain ⟨hlt, e⟩ := List.getElem?_eq_some_iff.mp h
  rw [List.drop_eq_getElem_cons hlt, e, dialAt, hd]
  rfl
abbrev s_dial_place : Stmt := top 4
theorem sc_dial_place : FnScope ["stages", "index", "stage"] ["stages"] (defScope s_dial_place) := ⟨rfl, rfl, rfl, by decide +kernel, rfl, by decide +kernel, by decide +kernel⟩
theorem ok_dial_place {f : Addr} {fd : FuncData} (F : Fun K "dial_place" "dial_place" s_dial_place f fd) (m_enumerate : mg "enumerate" = none) : FnOk P w K mg base CX0 1 f fd ["stages"] spDialAt := by
  refine F.ok sc_dial_place (fun vs H Q E h => ?_) (fun cdv A outer s H vs Q E hr h => ?_)
  · obtain ⟨x, ss, rfl, _⟩ := h
    rfl
  · obtain ⟨x, ss, rfl, hx, k⟩ := h
    refine ⟨_, (pss_cons (ps_for PassesOwn.never rfl (pi_enum (by rfl) m_enumerate (pa_cons (pv 0) pa_nil)) (pg_tup (by rfl) (pgs_cons (pg_name (i := 1) sc_dial_place.nd rfl (Or.inl rfl)) (pgs_cons (pg_name (i := 2) sc_dial_place.nd rfl (Or.inl rfl)) pgs_nil)))
  (pss_one (ps_if (pt_cmpR op_eq (pe_ix ix_tup (pv 2) pe_int (fun _ _ => rfl)) pe_str (nomark _))
  (pss_one (ps_ret (pv 1)))
  pss_nil)))
  (pss_one (ps_ret pe_non))), ?_⟩
    obtain ⟨l, ys, rfl, hl, hys⟩ := hx.listAt
    walk_at "rd"
    refine ⟨l, ys, rfl, .inl hl, ?_⟩
    refine run_forE ys (fun i σ G => ∃ (v1 v2 : Option V), σ = [some (.ref l), v1, v2] ∧ Ex H G ∧ dialAt ss 0 = dialAt (ss.drop i) i) ?_ ?_ ?_ ?_
    · exact ⟨_, _, rfl, Ex.refl _, by simp⟩
    · rintro i σ G _ ⟨v1, v2, rfl, e, _⟩
      exact .inl (Evl.ex_rd e hl)
    · rintro i y σ G Tp hi ⟨v1, v2, rfl, e, hs⟩ hT
      obtain ⟨st, hst, hy⟩ := dqaS_get hys hi
      have e2 := e.trans (Ex.new (o := HO.tup [.int (i : Nat), y]) hT)
      obtain ⟨a, xs, rfl, ha, hnm⟩ := stg_nm (hy.ex e2)
      refine go_gtup (.inl (.inl upd_same)) rfl ?_
      walk_at "rd"
      rw [nm_dial]
      cases hd : st.isDial with
      | true =>
        refine iteT ?_
        walk_at "rd"
        have := k _ e2
        rw [hs, dialAt_hit hst hd] at this
        exact this
      | false =>
        refine iteF ?_
        exact ⟨_, _, rfl, e2, by rw [hs, dialAt_drop hst hd]⟩
    · rintro σ G ⟨v1, v2, rfl, e, hs⟩
      walk_at "rd"
      have := k _ e
      rw [hs, show ss.drop ys.length = [] from List.drop_eq_nil_of_le (by rw [hys.len, List.length_map]; exact Nat.le_refl _)] at this
      exact this
abbrev s__may_follow : Stmt := top 29
theorem sc__may_follow : FnScope ["stages", "stage"] ["stages", "stage"] (defScope s__may_follow) := ⟨rfl, rfl, rfl, by decide +kernel, rfl, by decide +kernel, by decide +kernel⟩
theorem ok_may_follow {f : Addr} {fd : FuncData} (F : Fun K "_may_follow" "_may_follow" s__may_follow f fd) (m_len : mg "len" = none) (g_MOST_STAGES : mg "MOST_STAGES" = some (.int 8 tS)) (h_dial_place : Has P w K mg base 1 "dial_place" spDialAt) : FnOk P w K mg base CX0 2 f fd ["stages", "stage"] spMayF := by
  refine F.ok sc__may_follow (fun vs H Q E h => ?_) (fun cdv A outer s H vs Q E hr h => ?_)
  · obtain ⟨x, y, ss, s, rfl, _⟩ := h
    rfl
  · obtain ⟨x, y, ss, st, rfl, hx, hy, k⟩ := h
    refine ⟨_, (pss_one (ps_ret (pe_and (pe_cmpR op_lt (pe_callB call_lenQ rfl m_len PySem.boot_len (pa_cons (pv 0) pa_nil)) (pe_glob (v := .int 8) rfl g_MOST_STAGES ⟨_, rfl⟩) (nomark _)) (pe_one (pe_or (pe_cmpR op_ne (pe_ix ix_tup (pv 1) pe_int (fun _ _ => rfl)) pe_str (nomark _)) (pe_one (pe_cmpR op_isN1 (pe_hs h_dial_place hr rfl (pa_cons (pv 0) pa_nil)) pe_non (nomark _)))))))), ?_⟩
    obtain ⟨l, ys, rfl, hl, hys⟩ := id hx.listAt
    have hlen : ys.length = ss.length := by rw [hys.len, List.length_map]
    walk_at "rd"
    rw [hlen]
    have fin : ∀ H' (b : Bool), Ex H H' → mayF ss st = b → Q (.bl b) H' := fun H' b e h => h ▸ k H' e
    refine ite2 (fun c => ?_) (fun c => ?_)
    · have c8 : ss.length < 8 := by have := of_decide_eq_true c; omega
      obtain ⟨a, xs, rfl, ha, hnm⟩ := stg_nm hy
      walk_at "rd"
      rw [nm_dial]
      cases hd : st.isDial with
      | false =>
        refine iteT ?_
        exact fin _ _ (Ex.refl _) (by unfold mayF; rw [decide_eq_true c8, hd]; rfl)
      | true =>
        refine iteF ?_
        walk_at "rd"
        refine ⟨_, ss, rfl, hx, fun H1 e1 => ?_⟩
        walk_at "rd"
        refine fin _ _ e1 ?_
        unfold mayF
        rw [decide_eq_true c8, hd]
        have := dialAt_none ss 0
        cases h : dialAt ss 0 with
        | none => rw [decide_eq_true (this.mp h)]; simp [optV]
        | some i => rw [decide_eq_false (fun z => by rw [this.mpr z] at h; cases h)]; simp [optV]
    · have c8 : ¬ ss.length < 8 := fun z => c (decide_eq_true (by omega))
      exact fin _ _ (Ex.refl _) (by unfold mayF; rw [decide_eq_false c8]; rfl)
abbrev s__words_of : Stmt := top 24
theorem sc__words_of : FnScope ["text"] ["text"] (defScope s__words_of) := ⟨rfl, rfl, rfl, by decide +kernel, rfl, by decide +kernel, by decide +kernel⟩
theorem ok_words_of {f : Addr} {fd : FuncData} (F : Fun K "_words_of" "_words_of" s__words_of f fd) (T_InvalidSyntax : SupX.ErrTxt P K mg "InvalidSyntax" "word" CS fI) (m_isinstance : mg "isinstance" = none) (m_str : mg "str" = none) : FnOk P w K mg base (L2N.CX P w) 1 f fd ["text"] (spWords CS) := by
  refine okXN F sc__words_of (fun vs H Q E h => ?_) (fun cdv A outer s H vs Q E hr h => ?_)
  · obtain ⟨x, d, rfl, _⟩ := h
    rfl
  · obtain ⟨x, d, rfl, hd, k1, k2⟩ := h
    refine ⟨_, (pss_cons (ps_if (pt_not (pt_val (pe_callB call_isi rfl m_isinstance (by decide +kernel) (pa_cons (pv 0) (pa_cons (pe_bltn (v := .ty "str") (u := .type "str") rfl m_str (by decide +kernel) rfl) pa_nil)))))
  (pss_one (ps_raiseErrN rfl T_InvalidSyntax hr (L2N.takes_of rfl rfl rfl rfl) (pa_cons pe_non pa_nil)))
  pss_nil)
  (pss_one (ps_ret (pe_m1 PySem.F.slot_str_split PySem.F.type_str_split mt_spl (pv 0) pe_str)))), ?_⟩
    walk_at "rd"
    refine go_isi hd (kit_str d) ?_
    walk_at "rd"
    cases hp : pStr d with
    | false =>
      refine iteT ?_
      refine go_raiseErr ?_
      walk_at "rd"
      exact fun dd nd => k2 hp _ dd (Ex.new nd) nd upd_same
    | true =>
      obtain ⟨t, rfl⟩ : ∃ t, d = .str t := by cases d <;> simp [pStr] at hp; exact ⟨_, rfl⟩
      cases hd
      obtain ⟨hl, k⟩ := k1 t rfl
      refine iteF ?_
      walk_at "rd"
      intro p hp
      exact k p _ (Ex.new hp) hp upd_same
end
end Kx

set_option Elab.async false
set_option linter.all false
set_option maxRecDepth 100000
set_option maxHeartbeats 2000000

namespace Kx
open PySem PySem.Spec PyProof.Rows L2 HX TL
open Evl (Ex)
local macro_rules | `(tactic| walk_at "len") => `(tactic| first | assumption | exact le_line (by assumption) | exact le_line (by omega) | exact le_line (Nat.le_trans (cutS_length _ _ _) (by omega)) | (rw [sizeLine_eq]; omega))
local macro_rules | `(tactic| walk_at "side") => `(tactic| first | assumption | ((try dsimp only); first | assumption | decide +kernel | omega | exact ⟨by decide, by decide⟩ | (left; decide) | (left; omega) | (refine Or.inl ⟨?_, ?_⟩ <;> omega) | (refine Or.inr ⟨?_, ?_⟩ <;> omega)))
local macro_rules | `(tactic| walk_at "heap") => `(tactic| first | assumption | exact upd_same | exact Or.inl (by assumption) | exact Or.inl upd_same)
local macro_rules | `(tactic| walk_at "item") => `(tactic| first | exact rfl | exact atI_nat (j := 0) rfl | exact atI_nat (j := 1) rfl | exact atI_nat (j := 2) rfl | assumption)
local macro_rules | `(tactic| walk_at "rd") => `(tactic| repeat (first
  | ((with_reducible refine' go_var ?hv ?_); (case hv => exact rfl))
  | with_reducible refine' go_c ?_
  | with_reducible refine' go_op ?_
  | with_reducible refine' go_seq ?_
  | with_reducible refine' go_asg ?_
  | with_reducible refine' go_name ?_
  | with_reducible refine' go_cons ?_
  | with_reducible refine' go_nil ?_
  | with_reducible refine' go_cb ?_
  | with_reducible refine' go_call ?_
  | with_reducible refine' go_ifS ?_
  | with_reducible refine' go_test ?_
  | with_reducible refine' go_bl ?_
  | with_reducible refine' go_ret ?_
  | with_reducible refine' go_I0 ?_
  | ((with_reducible refine' go_I ?cc ?_); (case cc => walk_at "side"))
  | ((with_reducible refine' go_ixL ?hh ?hk ?_); (case hh => walk_at "heap"); (case hk => walk_at "item"))
  | ((with_reducible refine' go_ixT ?hh ?hk ?_); (case hh => walk_at "heap"); (case hk => walk_at "item"))
  | ((with_reducible refine' go_lenL ?hh ?_); (case hh => walk_at "heap"))
  | ((with_reducible refine' go_lenT ?hh ?_); (case hh => walk_at "heap"))
  | ((with_reducible refine' go_setL ?hh ?hk ?_); (case hh => walk_at "heap"); (case hk => walk_at "item"))
  | with_reducible refine' go_abs ?_
  | with_reducible refine' go_max ?_
  | with_reducible refine' go_min ?_
  | with_reducible refine' go_int ?_
  | with_reducible refine' go_intB ?_
  | (with_reducible refine' go_eq rfl ?_)
  | (with_reducible refine' go_ne rfl ?_)
  | with_reducible refine' go_isN ?_
  | with_reducible refine' go_notN ?_
  | with_reducible refine' go_if ?_
  | with_reducible refine' go_sub ?_
  | with_reducible refine' go_par ?_
  | with_reducible refine' go_sl ?_
  | with_reducible refine' go_part ?_
  | with_reducible refine' go_pint ?_
  | with_reducible refine' go_nopart ?_
  | ((with_reducible refine' go_lenL ?hh ?_); (case hh => walk_at "heap"))
  | ((with_reducible refine' go_lenT ?hh ?_); (case hh => walk_at "heap"))
  | ((with_reducible refine' go_lenS ?hh ?_); (case hh => assumption))
  | with_reducible refine' go_gcons ?_
  | with_reducible refine' go_gnil ?_
  | with_reducible refine' go_kw ?_
  | with_reducible refine' go_par2 ?_
  | with_reducible refine' go_next ?_
  | with_reducible refine' go_drop ?_
  | with_reducible refine' go_and ?_
  | with_reducible refine' go_or ?_
  | with_reducible refine' go_not ?_
  | with_reducible refine' go_B ?_
  | with_reducible refine' go_andV ?_
  | with_reducible refine' go_orV ?_
  | with_reducible refine' go_notV ?_
  | with_reducible refine' go_chain ?_
  | with_reducible refine' go_un ?_
  | with_reducible refine' go_U ?_
  | with_reducible refine' go_bm ?_
  | with_reducible refine' go_tup ?_
  | with_reducible refine' go_lst ?_
  | with_reducible refine' go_forR1 ?_
  | with_reducible refine' go_forR2 ?_
  | with_reducible refine' go_forL ?_
  | with_reducible refine' go_forT ?_
  | with_reducible refine' go_forE ?_
  | with_reducible refine' go_lcR1 ?_
  | with_reducible refine' go_lcL ?_
  | with_reducible refine' go_lcT ?_
  | ((with_reducible refine' go_tyL ?hh ?_); (case hh => walk_at "heap"))
  | ((with_reducible refine' go_new ?hz ?_); (case hz => exact Nat.le_of_ble_eq_true rfl))
  | with_reducible refine' go_par3 ?_
  | with_reducible refine' go_three ?_
  | with_reducible refine' go_m1 ?_
  | with_reducible refine' go_isS ?_
  | with_reducible refine' go_rSw ?_
  | with_reducible refine' go_rFnd ?_
  | ((with_reducible refine' go_rPrt (by decide +kernel) ?hz ?_); (case hz => walk_at "len"))
  | ((with_reducible refine' go_rSpl (by decide +kernel) ?hz ?_); (case hz => walk_at "len"))
  | ((with_reducible refine' go_rLenS ?hz ?_); (case hz => walk_at "len"))
  | ((with_reducible refine' go_slS ?hz ?_); (case hz => walk_at "len"))
  | with_reducible refine' go_sgn ?_
  | with_reducible refine' go_nsg ?_
  | with_reducible refine' go_lcS ?_
  | (with_reducible refine' ⟨_, rfl, ?_⟩)
  ))
--MACEND
/-! ### a text, word by word -/
def parR : List (List Nat) → Nat → List Stg → Option Int → Except Nat (List Stg × Option Int)
  | [], _, ss, r => .ok (ss, r)
  | _ :: _, i, _, some _ => .error i
  | w :: ws, i, ss, none => match (stgN w).filter (mayF ss) with
    | some s => parR ws (i + 1) (ss ++ [s]) none
    | none => if ss = [] then .error i else match rateN w with
      | some r => parR ws (i + 1) ss (some r)
      | none => .error i
def parL : List (List Nat) → Nat → List Lk → Except Nat (List Lk)
  | [], _, ls => .ok ls
  | w :: ws, i, ls => match lookN w with
    | none => .error i
    | some l => if ls.length = 6 then .error i else parL ws (i + 1) (ls ++ [l])
theorem parR_len : ∀ (ws : List (List Nat)) (i : Nat) (ss : List Stg) (r : Option Int) (ss' : List Stg) (r' : Option Int), ss.length ≤ 8 → parR ws i ss r = .ok (ss', r') → ss'.length ≤ 8
  | [], _, ss, r, ss', r', h, e => by
    simp [parR] at e; rw [← e.1]; exact h
  | _ :: _, i, ss, some _, ss', r', h, e => by simp [parR] at e
  | w :: ws, i, ss, none, ss', r', h, e => by
    rw [parR] at e
    split at e
    · rename_i s hs
      have hm : mayF ss s = true := (Option.filter_eq_some_iff.mp hs).2
      have h8 : ss.length < 8 := by
        unfold mayF at hm
        rw [Bool.and_eq_true, decide_eq_true_eq] at hm
        exact hm.1
      exact parR_len ws (i + 1) (ss ++ [s]) none ss' r' (by simp; omega) e
    · split at e
      · cases e
      · split at e
        · exact parR_len ws (i + 1) ss _ ss' r' h e
        · cases e
def errW (C : Addr) (H : Hp) (E : XK) (v : V) : Prop := ∀ H' dd, Ex H H' → H dd = none → H' dd = some (.xd [("word", v)]) → E (.ref C) (some dd) H'
def backR (C : Addr) (H : Hp) (Q : VK) (E : XK) : Except Nat (List Stg × Option Int) → Prop
  | .error i => errW C H E (.int i)
  | .ok (ss, r) => ∀ p l vs H', Ex H H' → H p = none → H l = none → p ≠ l → H' p = some (.tup [.ref l, optV r]) → H' l = some (.lst vs) → Tps H' vs (ss.map Stg.vals) → Q (.ref p) H'
def backL (C : Addr) (H : Hp) (Q : VK) (E : XK) : Except Nat (List Lk) → Prop
  | .error i => errW C H E (.int i)
  | .ok ls => ∀ l vs H', Ex H H' → H l = none → H' l = some (.lst vs) → Tps H' vs (ls.map Lk.vals) → Q (.ref l) H'
def spParR (C : Addr) : Sp := fun vs H Q E => ∃ x d, vs = [x] ∧ Dq H x d ∧ (pStr d = false → errW C H E .non) ∧ ∀ t, d = .str t → t.length ≤ 1000000 ∧ backR C H Q E (parR (words t) 0 [] none)
def spParL (C : Addr) : Sp := fun vs H Q E => ∃ x d, vs = [x] ∧ Dq H x d ∧ (pStr d = false → errW C H E .non) ∧ ∀ t, d = .str t → t.length ≤ 1000000 ∧ backL C H Q E (parL (words t) 0 [])
theorem fresh_of {H G : Hp} {p : Addr} (e : Ex H G) (n : G p = none) : H p = none := Evl.fresh_back e n
theorem words_at {t : Str} {i : Nat} {v : V} (h : ((Txt.split t (Str.ofString " ")).map V.str)[i]? = some v) : ∃ y : Str, v = .str y ∧ (words t)[i]? = some (tl y) ∧ y.length ≤ t.length := by
  rw [List.getElem?_map] at h
  cases e : (Txt.split t (Str.ofString " "))[i]? with
  | none => rw [e] at h; cases h
  | some y =>
    rw [e] at h
    cases h
    exact ⟨y, rfl, by unfold words; rw [List.getElem?_map, e]; rfl, part_short (List.mem_of_getElem? e)⟩
theorem drop_at {α : Type} {l : List α} {i : Nat} {x : α} (h : l[i]? = some x) : l.drop i = x :: l.drop (i + 1) := by
  obtain ⟨hlt, e⟩ := List.getElem?_eq_some_iff.mp h
  rw [List.drop_eq_getElem_cons hlt, e]
theorem go_nextS {D D0 : Ends} {te : TE} {g : TG} {u : TS} {σ : L2.St} {H : Hp} (e : D.nx = tSeq (tAsg te g) u D0) (h : tSeq (tAsg te g) u D0 σ H) : tNext D σ H := by
  show D.nx σ H
  rw [e]
  exact h
section
variable {P : Program} {w : World} {K : PySem.W.Frag} {mg : Str → Option Value} {base : Heap} {tD tM tS tL : Tok} {CS fI : Addr}
abbrev s_parse_receiver : Stmt := top 22
theorem sc_parse_receiver : FnScope ["text", "stages", "rate", "index", "word", "stage"] ["text"] (defScope s_parse_receiver) := ⟨rfl, rfl, rfl, by decide +kernel, rfl, by decide +kernel, by decide +kernel⟩
theorem ok_parse_receiver {f : Addr} {fd : FuncData} (F : Fun K "parse_receiver" "parse_receiver" s_parse_receiver f fd) (T_InvalidSyntax : SupX.ErrTxt P K mg "InvalidSyntax" "word" CS fI) (m_enumerate : mg "enumerate" = none)
    (h__words_of : HasX P w K mg base 1 "_words_of" (spWords CS)) (h__read_stage : Has P w K mg base 5 "_read_stage" spStgN) (h__may_follow : Has P w K mg base 2 "_may_follow" spMayF) (h__read_rate : Has P w K mg base 3 "_read_rate" (spNum rateN)) :
    FnOk P w K mg base (L2N.CX P w) 6 f fd ["text"] (spParR CS) := by
  refine okXN F sc_parse_receiver (fun vs H Q E h => ?_) (fun cdv A outer s H vs Q E hr h => ?_)
  · obtain ⟨x, d, rfl, _⟩ := h
    rfl
  · obtain ⟨x, d, rfl, hd, k2, k1⟩ := h
    refine ⟨_, (pss_cons (ps_set (i := 1) sc_parse_receiver.nd rfl (Or.inl rfl) (pe_lst pa_nil))
  (pss_cons (ps_set (i := 2) sc_parse_receiver.nd rfl (Or.inl rfl) pe_non)
  (pss_cons (ps_for (passes_of rfl) rfl (pi_enum (by rfl) m_enumerate (pa_cons (pe_hsS h__words_of hr rfl (fun σ => L2N.passAt (L2N.takes_of rfl rfl rfl rfl) σ) (pa_cons (pv 0) pa_nil)) pa_nil)) (pg_tup (by rfl) (pgs_cons (pg_name (i := 3) sc_parse_receiver.nd rfl (Or.inl rfl)) (pgs_cons (pg_name (i := 4) sc_parse_receiver.nd rfl (Or.inl rfl)) pgs_nil)))
  (pss_cons (ps_if (pt_cmpR op_notN1 (pv 2) pe_non (nomark _))
  (pss_one (ps_raiseErrN rfl T_InvalidSyntax hr (L2N.takes_of rfl rfl rfl rfl) (pa_cons (pv 3) pa_nil)))
  pss_nil)
  (pss_cons (ps_set (i := 5) sc_parse_receiver.nd rfl (Or.inl rfl) (pe_hs h__read_stage hr rfl (pa_cons (pv 4) pa_nil)))
  (pss_cons (ps_if (PW.pt (pw_and (pt_cmpR op_notN1 (pv 5) pe_non (nomark _)) (pw_and1 (pt_val (pe_hs h__may_follow hr rfl (pa_cons (pv 1) (pa_cons (pv 5) pa_nil)))))))
  (pss_cons (ps_expr (pe_bm PySem.F.plainAttrs_list PySem.F.slot_list_append PySem.F.type_list_append mt_append (pv 1) (pa_cons (pv 5) pa_nil)))
  (pss_one ps_continue))
  pss_nil)
  (pss_cons (ps_set (i := 2) sc_parse_receiver.nd rfl (Or.inl rfl) (pe_ifExp (pt_truth (pv 1) (by intro _; rfl)) (pe_hs h__read_rate hr rfl (pa_cons (pv 4) pa_nil)) pe_non))
  (pss_one (ps_if (pt_cmpR op_isN1 (pv 2) pe_non (nomark _))
  (pss_one (ps_raiseErrN rfl T_InvalidSyntax hr (L2N.takes_of rfl rfl rfl rfl) (pa_cons (pv 3) pa_nil)))
  pss_nil)))))))
  (pss_one (ps_ret (pe_tup (pa_cons (pv 1) (pa_cons (pv 2) pa_nil)))))))), ?_⟩
    walk_at "rd"
    intro l hl
    have e0 := Ex.new (o := HO.lst []) hl
    walk_at "rd"
    refine go_callS ?_
    walk_at "rd"
    refine ⟨x, d, rfl, hd.ex e0, fun t ht => ?_, fun hp H1 dd e1 nd hdd => ?_⟩
    · obtain ⟨ht1, back⟩ := k1 t ht
      refine ⟨ht1, fun p H1 e1 np hp => ?_⟩
      have pl : p ≠ l := fun z => by rw [z] at np; rw [upd_same] at np; cases np
      have hl1 := e1 _ _ (upd_same (H := H) (a := l) (o := HO.lst []))
      walk_at "rd"
      refine ⟨p, _, rfl, .inl (.inl hp), ?_⟩
      refine run_forE ((Txt.split t (Str.ofString " ")).map V.str) (fun i σ G => ∃ (v3 v4 v5 : Option V) (vs : List V) (ss : List Stg) (r : Option Int), σ = [some x, some (.ref l), some (optV r), v3, v4, v5] ∧ Ex H G ∧ G p = some (.lst ((Txt.split t (Str.ofString " ")).map V.str)) ∧ G l = some (.lst vs) ∧ Tps G vs (ss.map Stg.vals) ∧ ss.length ≤ 8 ∧
        parR (words t) 0 [] none = parR ((words t).drop i) i ss r) ?_ ?_ ?_ ?_
      · exact ⟨_, _, _, [], [], none, rfl, e0.trans e1, hp, hl1, .nil, by simp, by simp⟩
      · rintro i σ G _ ⟨_, _, _, _, _, _, rfl, _, h, _⟩
        exact .inl (.inl h)
      · rintro i y σ G Tp hi ⟨v3, v4, v5, vs, ss, r, rfl, e, hGp, hGl, hT, h8, hpar⟩ hTp
        obtain ⟨wd, rfl, hw, hwl⟩ := words_at hi
        rw [drop_at hw] at hpar
        have e2 := Ex.new (o := HO.tup [.int (i : Nat), .str wd]) hTp
        refine go_gtup (.inl (.inl upd_same)) rfl ?_
        walk_at "rd"
        have raise : parR (words t) 0 [] none = .error i → ∀ G', Ex H G' → ∀ dd, G' dd = none → E (.ref CS) (some dd) (upd G' dd (.xd [("word", .int (i : Nat))])) := fun he G' e' dd nd => by
          rw [he] at back
          exact back _ dd (e'.trans (Ex.new nd)) (fresh_of e' nd) upd_same
        cases r with
        | some r0 =>
          refine ite2 (fun _ => ?_) (fun c => absurd (by simp [optV]) c)
          refine go_raiseErr ?_
          walk_at "rd"
          exact raise (by rw [hpar]; rfl) _ (e.trans e2)
        | none =>
          refine ite2 (fun c => absurd c (by simp [optV])) (fun _ => ?_)
          refine go_next ?_
          dsimp only
          rw [parR] at hpar
          have lenv : vs.length = ss.length := by rw [hT.len, List.length_map]
          refine cut_s (fun σ' G' => ∃ u5 : V, σ' = [some x, some (.ref l), some .non, some (.int (i : Nat)), some (.str wd), some u5] ∧ Ex (upd G Tp (HO.tup [.int (i : Nat), .str wd])) G' ∧ ((u5 = .non ∧ stgN (tl wd) = none) ∨ ∃ st q, stgN (tl wd) = some st ∧ u5 = .ref q ∧ G' q = some (.tup st.vals))) (fun D' _ _ _ q => ?_) ?_
          · walk_at "rd"
            refine ⟨wd, rfl, by omega, fun hn H2 e3 => ?_, fun st hst qa H2 e3 nq hq => ?_⟩
            · walk_at "rd"
              exact q _ _ ⟨_, rfl, e3, .inl ⟨rfl, hn⟩⟩
            · walk_at "rd"
              exact q _ _ ⟨_, rfl, e3, .inr ⟨st, qa, hst, rfl, hq⟩⟩
          rintro σ2 G2 ⟨u5, rfl, e3, hu⟩
          have e5 := e2.trans e3
          have eG2 := e.trans e5
          refine cut_s (fun σ' G' => ∃ u5 : V, σ' = [some x, some (.ref l), some .non, some (.int (i : Nat)), some (.str wd), some u5] ∧ Ex G G' ∧ (stgN (tl wd)).filter (mayF ss) = none) (fun D' _ _ hct q => ?_) ?_
          · rcases hu with ⟨rfl, hn⟩ | ⟨st, qa, hst, rfl, hq⟩
            · walk_at "rd"
              refine ite2 (fun c => absurd c (by simp)) (fun _ => ?_)
              refine iteF ?_
              refine go_next ?_
              exact q _ _ ⟨_, rfl, e5, by rw [hn]; rfl⟩
            · walk_at "rd"
              refine ite2 (fun _ => ?_) (fun c => absurd (by simp) c)
              walk_at "rd"
              refine ⟨_, _, ss, st, rfl, .lst (.inl (e5 _ _ hGl)) (tps_stgs (hT.ex e5)), stg_dq hq, fun H3 e6 => ?_⟩
              walk_at "rd"
              cases hm : mayF ss st with
              | false =>
                refine iteF ?_
                refine go_next ?_
                exact q _ _ ⟨_, rfl, e5.trans e6, by rw [hst]; simp [hm]⟩
              | true =>
                refine iteT ?_
                have e7 := e5.trans e6
                have hl7 := e7 _ _ hGl
                have h8' : ss.length < 8 := by
                  unfold mayF at hm
                  rw [Bool.and_eq_true, decide_eq_true_eq] at hm
                  exact hm.1
                walk_at "rd"
                refine go_app (e7 _ _ hGl) (by rw [lenv, sizeLine_eq]; omega) ?_
                rw [hst, show Option.filter (mayF ss) (some st) = some st from by simp [hm]] at hpar
                walk_at "rd"
                refine Eq.mpr (congrFun (congrFun hct _) _) ?_
                dsimp only
                refine ⟨_, _, _, _, ss ++ [st], none, rfl, Ex.mut (e.trans e7) hl, ?_, upd_same, ?_, by simp; omega, hpar⟩
                · rw [upd_ne pl]; exact e7 _ _ hGp
                · rw [List.map_append]
                  exact (((hT.ex e7).snoc (e6 _ _ hq))).mut (e7 _ _ hGl)
          rintro σ3 G3 ⟨v5', rfl, e8, hfil⟩
          rw [hfil] at hpar
          dsimp only at hpar
          have eH3 := e.trans e8
          walk_at "rd"
          refine ⟨!vs.isEmpty, .inl ⟨vs, .inl (.inl (e8 _ _ hGl)), rfl⟩, ?_⟩
          cases hss : ss with
          | nil =>
            have hv0 : vs = [] := List.length_eq_zero_iff.mp (by rw [lenv, hss]; rfl)
            rw [hv0]
            refine ite2 (fun c => absurd c (by simp)) (fun _ => ?_)
            walk_at "rd"
            refine ite2 (fun _ => ?_) (fun c => absurd (by simp) c)
            refine go_raiseErr ?_
            walk_at "rd"
            exact raise (by rw [hpar, if_pos hss]) _ eH3
          | cons s0 sr =>
            have hv1 : (!vs.isEmpty) = true := by
              cases vs with
              | nil => rw [hss] at lenv; simp at lenv
              | cons v vs => rfl
            rw [hv1]
            refine iteT ?_
            rw [if_neg (by rw [hss]; simp)] at hpar
            walk_at "rd"
            refine ⟨wd, rfl, by omega, fun H4 e9 => ?_⟩
            walk_at "rd"
            cases hrt : rateN (tl wd) with
            | none =>
              rw [hrt] at hpar
              refine ite2 (fun _ => ?_) (fun c => absurd (by simp [optV]) c)
              refine go_raiseErr ?_
              walk_at "rd"
              exact raise hpar _ (eH3.trans e9)
            | some r1 =>
              rw [hrt] at hpar
              refine ite2 (fun c => absurd c (by simp [optV])) (fun _ => ?_)
              refine go_next ?_
              have e10 := e8.trans e9
              exact ⟨_, _, _, vs, ss, some r1, rfl, e.trans e10, e10 _ _ hGp, e10 _ _ hGl, hT.ex e10, h8, hpar⟩
      · rintro σ G ⟨_, _, _, vs, ss, r, rfl, e, hGp, hGl, hT, h8, hpar⟩
        rw [show (words t).drop ((Txt.split t (Str.ofString " ")).map V.str).length = [] from List.drop_eq_nil_of_le (by unfold words; rw [List.length_map, List.length_map]; exact Nat.le_refl _)] at hpar
        rw [hpar] at back
        walk_at "rd"
        intro pt npt
        exact back pt l vs _ (e.trans (Ex.new npt)) (fresh_of e npt) hl (fun z => by rw [z, hGl] at npt; cases npt) upd_same (by rw [upd_ne (fun z => by rw [← z, hGl] at npt; cases npt)]; exact hGl) (hT.ex (Ex.new npt))
    · exact k2 hp H1 dd (e0.trans e1) (fresh_of e0 nd) hdd
end
end Kx

set_option Elab.async false
set_option linter.all false
set_option maxRecDepth 100000
set_option maxHeartbeats 2000000

namespace Kx
open PySem PySem.Spec PyProof.Rows L2 HX TL
open Evl (Ex)
local macro_rules | `(tactic| walk_at "len") => `(tactic| first | assumption | exact le_line (by assumption) | exact le_line (by omega) | exact le_line (Nat.le_trans (cutS_length _ _ _) (by omega)) | (rw [sizeLine_eq]; omega))
local macro_rules | `(tactic| walk_at "side") => `(tactic| first | assumption | ((try dsimp only); first | assumption | decide +kernel | omega | exact ⟨by decide, by decide⟩ | (left; decide) | (left; omega) | (refine Or.inl ⟨?_, ?_⟩ <;> omega) | (refine Or.inr ⟨?_, ?_⟩ <;> omega)))
local macro_rules | `(tactic| walk_at "heap") => `(tactic| first | assumption | exact upd_same | exact Or.inl (by assumption) | exact Or.inl upd_same)
local macro_rules | `(tactic| walk_at "item") => `(tactic| first | exact rfl | exact atI_nat (j := 0) rfl | exact atI_nat (j := 1) rfl | exact atI_nat (j := 2) rfl | assumption)
local macro_rules | `(tactic| walk_at "rd") => `(tactic| repeat (first
  | ((with_reducible refine' go_var ?hv ?_); (case hv => exact rfl))
  | with_reducible refine' go_c ?_
  | with_reducible refine' go_op ?_
  | with_reducible refine' go_seq ?_
  | with_reducible refine' go_asg ?_
  | with_reducible refine' go_name ?_
  | with_reducible refine' go_cons ?_
  | with_reducible refine' go_nil ?_
  | with_reducible refine' go_cb ?_
  | with_reducible refine' go_call ?_
  | with_reducible refine' go_ifS ?_
  | with_reducible refine' go_test ?_
  | with_reducible refine' go_bl ?_
  | with_reducible refine' go_ret ?_
  | with_reducible refine' go_I0 ?_
  | ((with_reducible refine' go_I ?cc ?_); (case cc => walk_at "side"))
  | ((with_reducible refine' go_ixL ?hh ?hk ?_); (case hh => walk_at "heap"); (case hk => walk_at "item"))
  | ((with_reducible refine' go_ixT ?hh ?hk ?_); (case hh => walk_at "heap"); (case hk => walk_at "item"))
  | ((with_reducible refine' go_lenL ?hh ?_); (case hh => walk_at "heap"))
  | ((with_reducible refine' go_lenT ?hh ?_); (case hh => walk_at "heap"))
  | ((with_reducible refine' go_setL ?hh ?hk ?_); (case hh => walk_at "heap"); (case hk => walk_at "item"))
  | with_reducible refine' go_abs ?_
  | with_reducible refine' go_max ?_
  | with_reducible refine' go_min ?_
  | with_reducible refine' go_int ?_
  | with_reducible refine' go_intB ?_
  | (with_reducible refine' go_eq rfl ?_)
  | (with_reducible refine' go_ne rfl ?_)
  | with_reducible refine' go_isN ?_
  | with_reducible refine' go_notN ?_
  | with_reducible refine' go_if ?_
  | with_reducible refine' go_sub ?_
  | with_reducible refine' go_par ?_
  | with_reducible refine' go_sl ?_
  | with_reducible refine' go_part ?_
  | with_reducible refine' go_pint ?_
  | with_reducible refine' go_nopart ?_
  | ((with_reducible refine' go_lenL ?hh ?_); (case hh => walk_at "heap"))
  | ((with_reducible refine' go_lenT ?hh ?_); (case hh => walk_at "heap"))
  | ((with_reducible refine' go_lenS ?hh ?_); (case hh => assumption))
  | with_reducible refine' go_gcons ?_
  | with_reducible refine' go_gnil ?_
  | with_reducible refine' go_kw ?_
  | with_reducible refine' go_par2 ?_
  | with_reducible refine' go_next ?_
  | with_reducible refine' go_drop ?_
  | with_reducible refine' go_and ?_
  | with_reducible refine' go_or ?_
  | with_reducible refine' go_not ?_
  | with_reducible refine' go_B ?_
  | with_reducible refine' go_andV ?_
  | with_reducible refine' go_orV ?_
  | with_reducible refine' go_notV ?_
  | with_reducible refine' go_chain ?_
  | with_reducible refine' go_un ?_
  | with_reducible refine' go_U ?_
  | with_reducible refine' go_bm ?_
  | with_reducible refine' go_tup ?_
  | with_reducible refine' go_lst ?_
  | with_reducible refine' go_forR1 ?_
  | with_reducible refine' go_forR2 ?_
  | with_reducible refine' go_forL ?_
  | with_reducible refine' go_forT ?_
  | with_reducible refine' go_forE ?_
  | with_reducible refine' go_lcR1 ?_
  | with_reducible refine' go_lcL ?_
  | with_reducible refine' go_lcT ?_
  | ((with_reducible refine' go_tyL ?hh ?_); (case hh => walk_at "heap"))
  | ((with_reducible refine' go_new ?hz ?_); (case hz => exact Nat.le_of_ble_eq_true rfl))
  | with_reducible refine' go_par3 ?_
  | with_reducible refine' go_three ?_
  | with_reducible refine' go_m1 ?_
  | with_reducible refine' go_isS ?_
  | with_reducible refine' go_rSw ?_
  | with_reducible refine' go_rFnd ?_
  | ((with_reducible refine' go_rPrt (by decide +kernel) ?hz ?_); (case hz => walk_at "len"))
  | ((with_reducible refine' go_rSpl (by decide +kernel) ?hz ?_); (case hz => walk_at "len"))
  | ((with_reducible refine' go_rLenS ?hz ?_); (case hz => walk_at "len"))
  | ((with_reducible refine' go_slS ?hz ?_); (case hz => walk_at "len"))
  | with_reducible refine' go_sgn ?_
  | with_reducible refine' go_nsg ?_
  | with_reducible refine' go_lcS ?_
  | (with_reducible refine' ⟨_, rfl, ?_⟩)
  ))
--MACEND
section
variable {P : Program} {w : World} {K : PySem.W.Frag} {mg : Str → Option Value} {base : Heap} {tD tM tS tL : Tok} {CS fI : Addr}
abbrev s_parse_looks : Stmt := top 23
theorem sc_parse_looks : FnScope ["text", "looks", "index", "word", "look"] ["text"] (defScope s_parse_looks) := ⟨rfl, rfl, rfl, by decide +kernel, rfl, by decide +kernel, by decide +kernel⟩
theorem ok_parse_looks {f : Addr} {fd : FuncData} (F : Fun K "parse_looks" "parse_looks" s_parse_looks f fd) (T_InvalidSyntax : SupX.ErrTxt P K mg "InvalidSyntax" "word" CS fI) (m_enumerate : mg "enumerate" = none) (m_len : mg "len" = none) (g_MOST_LOOKS : mg "MOST_LOOKS" = some (.int 6 tL))
    (h__words_of : HasX P w K mg base 1 "_words_of" (spWords CS)) (h__read_look : Has P w K mg base 5 "_read_look" spLkN) :
    FnOk P w K mg base (L2N.CX P w) 6 f fd ["text"] (spParL CS) := by
  refine okXN F sc_parse_looks (fun vs H Q E h => ?_) (fun cdv A outer s H vs Q E hr h => ?_)
  · obtain ⟨x, d, rfl, _⟩ := h
    rfl
  · obtain ⟨x, d, rfl, hd, k2, k1⟩ := h
    refine ⟨_, (pss_cons (ps_set (i := 1) sc_parse_looks.nd rfl (Or.inl rfl) (pe_lst pa_nil))
  (pss_cons (ps_for (passes_of rfl) rfl (pi_enum (by rfl) m_enumerate (pa_cons (pe_hsS h__words_of hr rfl (fun σ => L2N.passAt (L2N.takes_of rfl rfl rfl rfl) σ) (pa_cons (pv 0) pa_nil)) pa_nil)) (pg_tup (by rfl) (pgs_cons (pg_name (i := 2) sc_parse_looks.nd rfl (Or.inl rfl)) (pgs_cons (pg_name (i := 3) sc_parse_looks.nd rfl (Or.inl rfl)) pgs_nil)))
  (pss_cons (ps_set (i := 4) sc_parse_looks.nd rfl (Or.inl rfl) (pe_hs h__read_look hr rfl (pa_cons (pv 3) pa_nil)))
  (pss_cons (ps_if (PW.pt (pw_or (pt_cmpR op_isN1 (pv 4) pe_non (nomark _)) (pw_or1 (pt_cmpR op_eq (pe_callB call_lenQ rfl m_len PySem.boot_len (pa_cons (pv 1) pa_nil)) (pe_glob (v := .int 6) rfl g_MOST_LOOKS ⟨_, rfl⟩) (nomark _)))))
  (pss_one (ps_raiseErrN rfl T_InvalidSyntax hr (L2N.takes_of rfl rfl rfl rfl) (pa_cons (pv 2) pa_nil)))
  pss_nil)
  (pss_one (ps_expr (pe_bm PySem.F.plainAttrs_list PySem.F.slot_list_append PySem.F.type_list_append mt_append (pv 1) (pa_cons (pv 4) pa_nil)))))))
  (pss_one (ps_ret (pv 1))))), ?_⟩
    walk_at "rd"
    intro l hl
    have e0 := Ex.new (o := HO.lst []) hl
    walk_at "rd"
    refine go_callS ?_
    walk_at "rd"
    refine ⟨x, d, rfl, hd.ex e0, fun t ht => ?_, fun hp H1 dd e1 nd hdd => ?_⟩
    · obtain ⟨ht1, back⟩ := k1 t ht
      refine ⟨ht1, fun p H1 e1 np hp => ?_⟩
      have pl : p ≠ l := fun z => by rw [z] at np; rw [upd_same] at np; cases np
      have hl1 := e1 _ _ (upd_same (H := H) (a := l) (o := HO.lst []))
      walk_at "rd"
      refine ⟨p, _, rfl, .inl (.inl hp), ?_⟩
      refine run_forE ((Txt.split t (Str.ofString " ")).map V.str) (fun i σ G => ∃ (v3 v4 v5 : Option V) (vs : List V) (ls : List Lk), σ = [some x, some (.ref l), v3, v4, v5] ∧ Ex H G ∧ G p = some (.lst ((Txt.split t (Str.ofString " ")).map V.str)) ∧ G l = some (.lst vs) ∧ Tps G vs (ls.map Lk.vals) ∧ ls.length ≤ 6 ∧
        parL (words t) 0 [] = parL ((words t).drop i) i ls) ?_ ?_ ?_ ?_
      · exact ⟨_, _, _, [], [], rfl, e0.trans e1, hp, hl1, .nil, by simp, by simp⟩
      · rintro i σ G _ ⟨_, _, _, _, _, rfl, _, h, _⟩
        exact .inl (.inl h)
      · rintro i y σ G Tp hi ⟨v3, v4, v5, vs, ls, rfl, e, hGp, hGl, hT, h8, hpar⟩ hTp
        obtain ⟨wd, rfl, hw, hwl⟩ := words_at hi
        rw [drop_at hw] at hpar
        rw [parL] at hpar
        have e2 := Ex.new (o := HO.tup [.int (i : Nat), .str wd]) hTp
        have lenv : vs.length = ls.length := by rw [hT.len, List.length_map]
        refine go_gtup (.inl (.inl upd_same)) rfl ?_
        walk_at "rd"
        have raise : parL (words t) 0 [] = .error i → ∀ G', Ex H G' → ∀ dd, G' dd = none → E (.ref CS) (some dd) (upd G' dd (.xd [("word", .int (i : Nat))])) := fun he G' e' dd nd => by
          rw [he] at back
          exact back _ dd (e'.trans (Ex.new nd)) (fresh_of e' nd) upd_same
        refine ⟨wd, rfl, by omega, fun hn H2 e3 => ?_, fun lk hlk qa H2 e3 nq hq => ?_⟩
        · rw [hn] at hpar
          walk_at "rd"
          refine ite2 (fun _ => ?_) (fun c => absurd (by simp) c)
          refine iteT ?_
          refine go_raiseErr ?_
          walk_at "rd"
          exact raise hpar _ ((e.trans e2).trans e3)
        · rw [hlk] at hpar
          dsimp only at hpar
          have e5 := e2.trans e3
          have hl5 := e5 _ _ hGl
          walk_at "rd"
          refine ite2 (fun c => absurd c (by simp)) (fun _ => ?_)
          walk_at "rd"
          rw [lenv]
          refine ite2 (fun c => ?_) (fun c => ?_)
          · have h6 : ls.length = 6 := by have := of_decide_eq_true c; simp at this; omega
            rw [if_pos h6] at hpar
            refine go_raiseErr ?_
            walk_at "rd"
            exact raise hpar _ (e.trans e5)
          · have h6 : ¬ ls.length = 6 := fun z => c (decide_eq_true (by rw [z]; rfl))
            rw [if_neg h6] at hpar
            walk_at "rd"
            refine go_app hl5 (by rw [lenv, sizeLine_eq]; omega) ?_
            dsimp only
            refine ⟨_, _, _, _, ls ++ [lk], rfl, Ex.mut (e.trans e5) hl, ?_, upd_same, ?_, by simp; omega, hpar⟩
            · rw [upd_ne pl]; exact e5 _ _ hGp
            · rw [List.map_append]
              exact (((hT.ex e5).snoc hq)).mut hl5
      · rintro σ G ⟨_, _, _, vs, ls, rfl, e, hGp, hGl, hT, h8, hpar⟩
        rw [show (words t).drop ((Txt.split t (Str.ofString " ")).map V.str).length = [] from List.drop_eq_nil_of_le (by unfold words; rw [List.length_map, List.length_map]; exact Nat.le_refl _)] at hpar
        rw [hpar] at back
        walk_at "rd"
        exact back l vs _ e hl hGl hT
    · exact k2 hp H1 dd (e0.trans e1) (fresh_of e0 nd) hdd
end
end Kx

set_option Elab.async false
set_option linter.all false
set_option maxRecDepth 100000
set_option maxHeartbeats 4000000

namespace Kx
open PySem PySem.Spec PyProof.Rows L2 HX TL
open Evl (Ex)
local macro_rules | `(tactic| walk_at "len") => `(tactic| first | assumption | exact le_line (by assumption) | exact le_line (by omega) | exact le_line (Nat.le_trans (cutS_length _ _ _) (by omega)) | (rw [sizeLine_eq]; omega))
local macro_rules | `(tactic| walk_at "side") => `(tactic| first | assumption | ((try dsimp only); first | assumption | decide +kernel | omega | exact ⟨by decide, by decide⟩ | (left; decide) | (left; omega) | (refine Or.inl ⟨?_, ?_⟩ <;> omega) | (refine Or.inr ⟨?_, ?_⟩ <;> omega)))
local macro_rules | `(tactic| walk_at "heap") => `(tactic| first | assumption | exact upd_same | exact Or.inl (by assumption) | exact Or.inl upd_same)
local macro_rules | `(tactic| walk_at "item") => `(tactic| first | exact rfl | exact atI_nat (j := 0) rfl | exact atI_nat (j := 1) rfl | exact atI_nat (j := 2) rfl | assumption)
local macro_rules | `(tactic| walk_at "rd") => `(tactic| repeat (first
  | ((with_reducible refine' go_var ?hv ?_); (case hv => exact rfl))
  | with_reducible refine' go_c ?_
  | with_reducible refine' go_op ?_
  | with_reducible refine' go_seq ?_
  | with_reducible refine' go_asg ?_
  | with_reducible refine' go_name ?_
  | with_reducible refine' go_cons ?_
  | with_reducible refine' go_nil ?_
  | with_reducible refine' go_cb ?_
  | with_reducible refine' go_call ?_
  | with_reducible refine' go_ifS ?_
  | with_reducible refine' go_test ?_
  | with_reducible refine' go_bl ?_
  | with_reducible refine' go_ret ?_
  | with_reducible refine' go_I0 ?_
  | ((with_reducible refine' go_I ?cc ?_); (case cc => walk_at "side"))
  | ((with_reducible refine' go_ixL ?hh ?hk ?_); (case hh => walk_at "heap"); (case hk => walk_at "item"))
  | ((with_reducible refine' go_ixT ?hh ?hk ?_); (case hh => walk_at "heap"); (case hk => walk_at "item"))
  | ((with_reducible refine' go_lenL ?hh ?_); (case hh => walk_at "heap"))
  | ((with_reducible refine' go_lenT ?hh ?_); (case hh => walk_at "heap"))
  | ((with_reducible refine' go_setL ?hh ?hk ?_); (case hh => walk_at "heap"); (case hk => walk_at "item"))
  | with_reducible refine' go_abs ?_
  | with_reducible refine' go_max ?_
  | with_reducible refine' go_min ?_
  | with_reducible refine' go_int ?_
  | with_reducible refine' go_intB ?_
  | (with_reducible refine' go_eq rfl ?_)
  | (with_reducible refine' go_ne rfl ?_)
  | with_reducible refine' go_isN ?_
  | with_reducible refine' go_notN ?_
  | with_reducible refine' go_if ?_
  | with_reducible refine' go_sub ?_
  | with_reducible refine' go_par ?_
  | with_reducible refine' go_sl ?_
  | with_reducible refine' go_part ?_
  | with_reducible refine' go_pint ?_
  | with_reducible refine' go_nopart ?_
  | ((with_reducible refine' go_lenL ?hh ?_); (case hh => walk_at "heap"))
  | ((with_reducible refine' go_lenT ?hh ?_); (case hh => walk_at "heap"))
  | ((with_reducible refine' go_lenS ?hh ?_); (case hh => assumption))
  | with_reducible refine' go_gcons ?_
  | with_reducible refine' go_gnil ?_
  | with_reducible refine' go_kw ?_
  | with_reducible refine' go_par2 ?_
  | with_reducible refine' go_next ?_
  | with_reducible refine' go_drop ?_
  | with_reducible refine' go_and ?_
  | with_reducible refine' go_or ?_
  | with_reducible refine' go_not ?_
  | with_reducible refine' go_B ?_
  | with_reducible refine' go_andV ?_
  | with_reducible refine' go_orV ?_
  | with_reducible refine' go_notV ?_
  | with_reducible refine' go_chain ?_
  | with_reducible refine' go_un ?_
  | with_reducible refine' go_U ?_
  | with_reducible refine' go_bm ?_
  | with_reducible refine' go_tup ?_
  | with_reducible refine' go_lst ?_
  | with_reducible refine' go_forR1 ?_
  | with_reducible refine' go_forR2 ?_
  | with_reducible refine' go_forL ?_
  | with_reducible refine' go_forT ?_
  | with_reducible refine' go_forE ?_
  | with_reducible refine' go_lcR1 ?_
  | with_reducible refine' go_lcL ?_
  | with_reducible refine' go_lcT ?_
  | ((with_reducible refine' go_tyL ?hh ?_); (case hh => walk_at "heap"))
  | ((with_reducible refine' go_new ?hz ?_); (case hz => exact Nat.le_of_ble_eq_true rfl))
  | with_reducible refine' go_par3 ?_
  | with_reducible refine' go_three ?_
  | with_reducible refine' go_m1 ?_
  | with_reducible refine' go_isS ?_
  | with_reducible refine' go_rSw ?_
  | with_reducible refine' go_rFnd ?_
  | ((with_reducible refine' go_rPrt (by decide +kernel) ?hz ?_); (case hz => walk_at "len"))
  | ((with_reducible refine' go_rSpl (by decide +kernel) ?hz ?_); (case hz => walk_at "len"))
  | ((with_reducible refine' go_rLenS ?hz ?_); (case hz => walk_at "len"))
  | ((with_reducible refine' go_slS ?hz ?_); (case hz => walk_at "len"))
  | with_reducible refine' go_sgn ?_
  | with_reducible refine' go_nsg ?_
  | with_reducible refine' go_lcS ?_
  | (with_reducible refine' ⟨_, rfl, ?_⟩)
  ))
--MACEND
theorem Jx.mut {S : List Addr} {H G : Hp} {l : Addr} {o : HO} (x : Jx S H G) (hl : H l = none) : Jx S H (upd G l o) := fun b u e => by
  obtain ⟨h1, h2⟩ := hid_some e
  have := x b u e
  have hb : b ≠ l := fun z => by rw [z, hl] at h2; cases h2
  rw [hid_ne h1, upd_ne hb]
  exact (hid_some this).2
theorem Tps.jx {S : List Addr} {H G : Hp} (x : Jx S H G) (hS : ∀ s ∈ S, ∃ c, H s = some (.lst c)) : ∀ {xs ts}, Tps H xs ts → Tps G xs ts
  | _, _, .nil => .nil
  | _, _, .cons h t => .cons (x.get h fun z => by obtain ⟨c, hc⟩ := hS _ z; rw [h] at hc; cases hc) (t.jx x hS)
/-- a new list of tuples that grows while a tank is drawn from -/
structure Grw (j : Addr) (H : Hp) (l : Addr) (vs : List V) (ts : List (List V)) (G : Hp) : Prop where
  X : Jx [j] H G
  new : H l = none
  lj : l ≠ j
  at_ : G l = some (.lst vs)
  T : Tps G vs ts
theorem JarAt.lst {n : Nat} {H : Hp} {j : Addr} (J : JarAt n H j) : ∀ s ∈ [j], ∃ c, H s = some (.lst c) := fun s hs => by
  obtain rfl : s = j := by simpa using hs
  obtain ⟨a, b, c, h, _⟩ := J
  exact ⟨_, h⟩
section
variable {j l p q : Addr} {H G G' : Hp} {vs : List V} {ts : List (List V)} {n : Nat} {o : HO}
theorem Grw.pick (g : Grw j H l vs ts G) (J : JarAt n G j) (y : Jx [j] G G') : Grw j H l vs ts G' :=
  ⟨g.X.tr y, g.new, g.lj, y.get g.at_ (nin1 g.lj), g.T.jx y J.lst⟩
theorem Grw.lay (g : Grw j H l vs ts G) (hp : G p = none) : Grw j H l vs ts (upd G p o) :=
  ⟨g.X.tr (Jx.new hp), g.new, g.lj, by rw [upd_ne (fresh_ne g.at_ hp).symm]; exact g.at_, g.T.ex (Ex.new hp)⟩
theorem Grw.app (g : Grw j H l vs ts G) {t : List V} (hq : G q = some (.tup t)) : Grw j H l (vs ++ [.ref q]) (ts ++ [t]) (upd G l (.lst (vs ++ [.ref q]))) :=
  ⟨Jx.mut g.X g.new, g.new, g.lj, upd_same, (g.T.snoc hq).mut g.at_⟩
theorem Grw.cat (g : Grw j H l vs ts G) (J : JarAt n G j) {t : List V} (hq : G q = some (.tup t)) (hp : G p = none) : Grw j H p (vs ++ [.ref q]) (ts ++ [t]) (upd G p (.lst (vs ++ [.ref q]))) :=
  ⟨g.X.tr (Jx.new hp), J.fresh g.X hp, fresh_ne J.obj.choose_spec hp, upd_same, (g.T.snoc hq).ex (Ex.new hp)⟩
end
theorem JarAt.lay {n : Nat} {H : Hp} {j p : Addr} {o : HO} (J : JarAt n H j) (hp : H p = none) : JarAt n (upd H p o) j := J.keep (upd_ne (fresh_ne J.obj.choose_spec hp).symm)
theorem go_parB {P : V → V → Prop} {x y : V} (h : P x y) : ∃ v w, [x, y] = [v, w] ∧ P v w := ⟨x, y, rfl, h⟩
def spSet : Sp := fun vs H Q _ => ∃ (j : Addr) (most top rates : Int) (n : Nat), vs = [.ref j, .int most, .int top, .int rates] ∧ JarAt n H j ∧ n < 2 ^ 40 ∧ 1 ≤ most ∧ most ≤ 8 ∧ 1 ≤ top ∧ top < 2 ^ 200 ∧ 1 ≤ rates ∧ rates < 2 ^ 200 ∧
  ∀ (p l : Addr) (xs : List V) (ss : List Stg) (rate : Option Int) (H' : Hp), Rad (10 * top + rates + 20) ss rate → JarAt (n + 100) H' j → Jx [j] H H' → H p = none → H l = none → p ≠ l → p ≠ j → l ≠ j →
    H' p = some (.tup [.ref l, optV rate]) → H' l = some (.lst xs) → Tps H' xs (ss.map Stg.vals) → Q (.ref p) H'
section
variable {P : Program} {w : World} {K : PySem.W.Frag} {mg : Str → Option Value} {base : Heap}
end
end Kx

set_option Elab.async false
set_option linter.all false
set_option maxRecDepth 100000
set_option maxHeartbeats 2000000
namespace Kx
open PySem PySem.Spec PyProof.Rows L2 HX TL
/-! ### numbers as texts -/
def intL (i : Int) : List Nat := if i < 0 then 45 :: numL i.natAbs else numL i.natAbs
theorem tl_int (i : Int) : tl (Str.ofString (toString i)) = intL i := by
  unfold intL
  by_cases h : i < 0
  · rw [if_pos h, tl_ofString, Int.toString_eq_repr, Int.repr_eq_if, if_neg (by omega), String.toList_append, List.map_append]
    have e : (("-" : String).toList.map Char.toNat) = [45] := by decide
    rw [e]
    have t := tl_num i.natAbs
    rw [tl_ofString, Int.toString_eq_repr, Int.repr_eq_if, if_pos (by omega)] at t
    have q : ((i.natAbs : Nat) : Int).toNat = (-i).toNat := by omega
    rw [q] at t
    rw [t]; rfl
  · rw [if_neg h]
    have t := tl_num i.natAbs
    have q : ((i.natAbs : Nat) : Int) = i := by omega
    rw [q] at t
    exact t
theorem intL_len {i : Int} {k : Nat} (hk : 0 < k) (h : i.natAbs < 10 ^ k) : (intL i).length ≤ k + 1 := by
  have := numL_len hk h
  unfold intL
  split
  · simp; omega
  · omega
theorem int_len {i : Int} {k : Nat} (hk : 0 < k) (h : i.natAbs < 10 ^ k) : (Str.ofString (toString i)).length ≤ k + 1 := by
  rw [len_tl, tl_int]
  exact intL_len hk h
theorem len_app (a b : Str) : (a ++ b).length = a.length + b.length := by
  rw [len_tl, len_tl a, len_tl b, tl_append, List.length_append]
theorem log_small {i : Int} (h : i.natAbs < 2 ^ 1900) : i.natAbs.log2 < 1920 := by
  by_cases z : i.natAbs = 0
  · rw [z]; decide
  · exact (Nat.log2_lt z).mpr (Nat.lt_trans h (by decide +kernel))
/-- the words of stages and looks -/
@[reducible] def nS (i : Int) : Str := Str.ofString (toString i)
def stgS : Stg → Str
  | .mix lo => Str.ofString "m" ++ nS lo
  | .dial a => Str.ofString "d" ++ nS a
  | .pass a b => Str.ofString "p" ++ nS a ++ Str.ofString ".." ++ nS b
def rateS : Option Int → List Str
  | none => []
  | some r => [Str.ofString "/" ++ nS r]
def setS (ss : List Stg) (rate : Option Int) : Str := Txt.join (Str.ofString " ") (ss.map stgS ++ rateS rate)
def lkS (l : Lk) : Str := nS l.dial ++ Str.ofString "=" ++ (match l.band with
  | none => Str.ofString "-"
  | some b => nS b.1 ++ Str.ofString ".." ++ nS b.2)
def looksS (ls : List Lk) : Str := Txt.join (Str.ofString " ") (ls.map lkS)
def Small (k : Nat) (i : Int) : Prop := i.natAbs < 10 ^ k
def Stg.small (k : Nat) : Stg → Prop
  | .mix lo => Small k lo
  | .dial a => Small k a
  | .pass a b => Small k a ∧ Small k b
def Lk.small (k : Nat) (l : Lk) : Prop := Small k l.dial ∧ ∀ b, l.band = some b → Small k b.1 ∧ Small k b.2
theorem one_len : (Str.ofString "m").length = 1 ∧ (Str.ofString "d").length = 1 ∧ (Str.ofString "p").length = 1 ∧ (Str.ofString "..").length = 2 ∧ (Str.ofString "/").length = 1 ∧ (Str.ofString " ").length = 1 ∧ (Str.ofString "=").length = 1 ∧ (Str.ofString "-").length = 1 := by decide +kernel
theorem small_len {k : Nat} (hk : 0 < k) {i : Int} (h : Small k i) : (nS i).length ≤ k + 1 := int_len hk h
theorem stgS_len {k : Nat} (hk : 0 < k) {s : Stg} (h : s.small k) : (stgS s).length ≤ 2 * k + 5 := by
  obtain ⟨h1, h2, h3, h4, _⟩ := one_len
  cases s with
  | mix lo => have := small_len hk h; rw [stgS, len_app]; omega
  | dial lo => have := small_len hk h; rw [stgS, len_app]; omega
  | pass a b =>
    have q1 := small_len hk h.1
    have q2 := small_len hk h.2
    rw [stgS, len_app, len_app, len_app]
    omega
theorem lkS_len {k : Nat} (hk : 0 < k) {l : Lk} (h : l.small k) : (lkS l).length ≤ 3 * k + 6 := by
  obtain ⟨h1, h2, h3, h4, h5, h6, h7, h8⟩ := one_len
  have q0 := small_len hk h.1
  obtain ⟨d, b⟩ := l
  cases b with
  | none => unfold lkS; dsimp only at *; rw [len_app, len_app]; omega
  | some b =>
    have q1 := small_len hk (h.2 b rfl).1
    have q2 := small_len hk (h.2 b rfl).2
    unfold lkS
    dsimp only at q0 q1 q2 ⊢
    simp only [len_app]
    omega
theorem joinL_len (S : List Nat) : ∀ l : List (List Nat), (joinL S l).length ≤ (l.map List.length).sum + l.length * S.length
  | [] => by simp [joinL]
  | [p] => by simp [joinL]
  | p :: q :: r => by
    have := joinL_len S (q :: r)
    rw [joinL]
    simp only [List.length_append, List.map_cons, List.sum_cons, List.length_cons] at this ⊢
    simp only [Nat.add_mul, Nat.one_mul] at this ⊢
    omega
theorem join_len (y : Str) (l : List Str) : (Txt.join y l).length ≤ (l.map (·.length)).sum + l.length * y.length := by
  rw [join_eq, len_tl, tl_join]
  have := joinL_len (tl y) (l.map tl)
  rw [List.map_map, List.length_map] at this
  rw [len_tl y]
  have e : (l.map (·.length)) = (l.map (List.length ∘ tl)) := List.map_congr_left fun x _ => len_tl x
  rw [e]
  exact this
theorem sum_le {l : List Str} {m : Nat} (h : ∀ x ∈ l, x.length ≤ m) : (l.map (·.length)).sum ≤ l.length * m := by
  induction l with
  | nil => simp
  | cons a l ih =>
    have h1 := h a List.mem_cons_self
    have h2 := ih fun x hx => h x (List.mem_cons_of_mem _ hx)
    simp only [List.map_cons, List.sum_cons, List.length_cons, Nat.add_mul, Nat.one_mul]
    omega
theorem setS_len {k : Nat} (hk : 0 < k) {ss : List Stg} {rate : Option Int} (h8 : ss.length ≤ 8) (hs : ∀ s ∈ ss, s.small k) (hr : ∀ r, rate = some r → Small k r) :
    (∀ x ∈ ss.map stgS ++ rateS rate, x.length ≤ 2 * k + 5) ∧ (ss.map stgS ++ rateS rate).length ≤ 9 := by
  obtain ⟨h1, h2, h3, h4, h5, h6, h7, _⟩ := one_len
  refine ⟨fun x hx => ?_, ?_⟩
  · rcases List.mem_append.mp hx with hx | hx
    · obtain ⟨s, hs', rfl⟩ := List.mem_map.mp hx
      exact stgS_len hk (hs s hs')
    · cases rate with
      | none => cases hx
      | some r =>
        rw [rateS, List.mem_singleton] at hx
        subst hx
        have := small_len hk (hr r rfl)
        rw [len_app]
        omega
  · cases rate <;> simp [rateS] <;> omega
end Kx

set_option Elab.async false
set_option linter.all false
set_option maxRecDepth 100000
set_option maxHeartbeats 4000000

namespace Kx
open PySem PySem.Spec PyProof.Rows L2 HX TL
open Evl (Ex)
local macro_rules | `(tactic| walk_at "len") => `(tactic| first | assumption | exact le_line (by assumption) | exact le_line (by omega) | exact le_line (Nat.le_trans (cutS_length _ _ _) (by omega)) | (rw [sizeLine_eq]; omega))
local macro_rules | `(tactic| walk_at "side") => `(tactic| first | assumption | ((try dsimp only); first | assumption | decide +kernel | omega | exact ⟨by decide, by decide⟩ | (left; decide) | (left; omega) | (refine Or.inl ⟨?_, ?_⟩ <;> omega) | (refine Or.inr ⟨?_, ?_⟩ <;> omega)))
local macro_rules | `(tactic| walk_at "heap") => `(tactic| first | assumption | exact upd_same | exact Or.inl (by assumption) | exact Or.inl upd_same)
local macro_rules | `(tactic| walk_at "item") => `(tactic| first | exact rfl | exact atI_nat (j := 0) rfl | exact atI_nat (j := 1) rfl | exact atI_nat (j := 2) rfl | assumption)
local macro_rules | `(tactic| walk_at "rd") => `(tactic| repeat (first
  | ((with_reducible refine' go_var ?hv ?_); (case hv => exact rfl))
  | with_reducible refine' go_c ?_
  | with_reducible refine' go_op ?_
  | with_reducible refine' go_seq ?_
  | with_reducible refine' go_asg ?_
  | with_reducible refine' go_name ?_
  | with_reducible refine' go_cons ?_
  | with_reducible refine' go_nil ?_
  | with_reducible refine' go_cb ?_
  | with_reducible refine' go_call ?_
  | with_reducible refine' go_ifS ?_
  | with_reducible refine' go_test ?_
  | with_reducible refine' go_bl ?_
  | with_reducible refine' go_ret ?_
  | with_reducible refine' go_I0 ?_
  | ((with_reducible refine' go_I ?cc ?_); (case cc => walk_at "side"))
  | ((with_reducible refine' go_ixL ?hh ?hk ?_); (case hh => walk_at "heap"); (case hk => walk_at "item"))
  | ((with_reducible refine' go_ixT ?hh ?hk ?_); (case hh => walk_at "heap"); (case hk => walk_at "item"))
  | ((with_reducible refine' go_lenL ?hh ?_); (case hh => walk_at "heap"))
  | ((with_reducible refine' go_lenT ?hh ?_); (case hh => walk_at "heap"))
  | ((with_reducible refine' go_setL ?hh ?hk ?_); (case hh => walk_at "heap"); (case hk => walk_at "item"))
  | with_reducible refine' go_abs ?_
  | with_reducible refine' go_max ?_
  | with_reducible refine' go_min ?_
  | with_reducible refine' go_int ?_
  | with_reducible refine' go_intB ?_
  | (with_reducible refine' go_eq rfl ?_)
  | (with_reducible refine' go_ne rfl ?_)
  | with_reducible refine' go_isN ?_
  | with_reducible refine' go_notN ?_
  | with_reducible refine' go_if ?_
  | with_reducible refine' go_sub ?_
  | with_reducible refine' go_par ?_
  | with_reducible refine' go_sl ?_
  | with_reducible refine' go_part ?_
  | with_reducible refine' go_pint ?_
  | with_reducible refine' go_nopart ?_
  | ((with_reducible refine' go_lenL ?hh ?_); (case hh => walk_at "heap"))
  | ((with_reducible refine' go_lenT ?hh ?_); (case hh => walk_at "heap"))
  | ((with_reducible refine' go_lenS ?hh ?_); (case hh => assumption))
  | with_reducible refine' go_gcons ?_
  | with_reducible refine' go_gnil ?_
  | with_reducible refine' go_kw ?_
  | with_reducible refine' go_par2 ?_
  | with_reducible refine' go_next ?_
  | with_reducible refine' go_drop ?_
  | with_reducible refine' go_and ?_
  | with_reducible refine' go_or ?_
  | with_reducible refine' go_not ?_
  | with_reducible refine' go_B ?_
  | with_reducible refine' go_andV ?_
  | with_reducible refine' go_orV ?_
  | with_reducible refine' go_notV ?_
  | with_reducible refine' go_chain ?_
  | with_reducible refine' go_un ?_
  | with_reducible refine' go_U ?_
  | with_reducible refine' go_bm ?_
  | with_reducible refine' go_tup ?_
  | with_reducible refine' go_lst ?_
  | with_reducible refine' go_forR1 ?_
  | with_reducible refine' go_forR2 ?_
  | with_reducible refine' go_forL ?_
  | with_reducible refine' go_forT ?_
  | with_reducible refine' go_forE ?_
  | with_reducible refine' go_lcR1 ?_
  | with_reducible refine' go_lcL ?_
  | with_reducible refine' go_lcT ?_
  | ((with_reducible refine' go_tyL ?hh ?_); (case hh => walk_at "heap"))
  | ((with_reducible refine' go_new ?hz ?_); (case hz => exact Nat.le_of_ble_eq_true rfl))
  | with_reducible refine' go_par3 ?_
  | with_reducible refine' go_three ?_
  | with_reducible refine' go_m1 ?_
  | with_reducible refine' go_isS ?_
  | with_reducible refine' go_rSw ?_
  | with_reducible refine' go_rFnd ?_
  | ((with_reducible refine' go_rPrt (by decide +kernel) ?hz ?_); (case hz => walk_at "len"))
  | ((with_reducible refine' go_rSpl (by decide +kernel) ?hz ?_); (case hz => walk_at "len"))
  | ((with_reducible refine' go_rLenS ?hz ?_); (case hz => walk_at "len"))
  | ((with_reducible refine' go_slS ?hz ?_); (case hz => walk_at "len"))
  | with_reducible refine' go_sgn ?_
  | with_reducible refine' go_nsg ?_
  | with_reducible refine' go_lcS ?_
  | (with_reducible refine' ⟨_, rfl, ?_⟩)
  ))
--MACEND
/-- a receiver at p: its list of tuples, its rate -/
structure RadAt (H : Hp) (p : Addr) (ss : List Stg) (rate : Option Int) : Prop where
  ex : ∃ (l : Addr) (vs : List V), H p = some (.tup [.ref l, optV rate]) ∧ H l = some (.lst vs) ∧ Tps H vs (ss.map Stg.vals)
theorem RadAt.mono {H H' : Hp} {p : Addr} {ss : List Stg} {rate : Option Int} (e : Ex H H') (h : RadAt H p ss rate) : RadAt H' p ss rate :=
  let ⟨⟨l, vs, h1, h2, h3⟩⟩ := h; ⟨⟨l, vs, e _ _ h1, e _ _ h2, h3.ex e⟩⟩
theorem RadAt.dq {H : Hp} {p : Addr} {ss : List Stg} {rate : Option Int} (h : RadAt H p ss rate) : Dq H (.ref p) (radD ss rate) := by
  obtain ⟨l, vs, h1, h2, h3⟩ := h.ex
  refine .tup (.inl h1) (.cons (.lst (.inl h2) (tps_stgs h3)) (.cons ?_ .nil))
  cases rate with
  | none => exact .non
  | some r => exact .int r
def spSetT : Sp := fun vs H Q _ => ∃ (p : Addr) (ss : List Stg) (rate : Option Int) (k : Nat), vs = [.ref p] ∧ RadAt H p ss rate ∧ ss.length ≤ 8 ∧ 0 < k ∧ k ≤ 100 ∧ (∀ s ∈ ss, s.small k) ∧ (∀ r, rate = some r → Small k r) ∧ ∀ H', Ex H H' → Q (.str (setS ss rate)) H'
def spLooksT : Sp := fun vs H Q _ => ∃ (l : Addr) (xs : List V) (ls : List Lk) (k : Nat), vs = [.ref l] ∧ H l = some (.lst xs) ∧ Tps H xs (ls.map Lk.vals) ∧ ls.length ≤ 8 ∧ 0 < k ∧ k ≤ 100 ∧ (∀ s ∈ ls, s.small k) ∧ ∀ H', Ex H H' → Q (.str (looksS ls)) H'
theorem small_log {k : Nat} {i : Int} (hk : k ≤ 100) (h : Small k i) : i.natAbs.log2 < 1920 := by
  refine log_small (Nat.lt_of_lt_of_le h (Nat.le_trans (Nat.pow_le_pow_right (by decide) hk) (by decide +kernel)))
theorem tps_at {H : Hp} {α : Type} {f : α → List V} {vs : List V} {ss : List α} {i : Nat} {v : V} (T : Tps H vs (ss.map f)) (h : vs[i]? = some v) : ∃ s a, ss[i]? = some s ∧ v = .ref a ∧ H a = some (.tup (f s)) := by
  obtain ⟨a, t, h1, h2, h3⟩ := T.get h
  rw [List.getElem?_map] at h1
  cases e : ss[i]? with
  | none => rw [e] at h1; cases h1
  | some s => rw [e] at h1; cases h1; exact ⟨s, a, rfl, h2, h3⟩
theorem go_catQ {K : PySem.W.Frag} {l m : Addr} {xs zs : List V} {H : Hp} {Q : VK} (h1 : H l = some (.lst xs)) (h2 : H m = some (.lst zs)) (hz : xs.length + zs.length ≤ sizeLine) (q : ∀ p, H p = none → Q (.ref p) (upd H p (.lst (xs ++ zs)))) : rCat (.ref l) (.ref m) H Q := go_cat h1 h2 hz q
section
variable {P : Program} {w : World} {K : PySem.W.Frag} {mg : Str → Option Value} {base : Heap}
end
end Kx

set_option Elab.async false
set_option linter.all false
set_option maxRecDepth 100000
set_option maxHeartbeats 4000000

namespace Kx
open PySem PySem.Spec PyProof.Rows L2 HX TL
open Evl (Ex)
local macro_rules | `(tactic| walk_at "len") => `(tactic| first | assumption | exact le_line (by assumption) | exact le_line (by omega) | exact le_line (Nat.le_trans (cutS_length _ _ _) (by omega)) | (rw [sizeLine_eq]; omega))
local macro_rules | `(tactic| walk_at "side") => `(tactic| first | assumption | ((try dsimp only); first | assumption | decide +kernel | omega | exact ⟨by decide, by decide⟩ | (left; decide) | (left; omega) | (refine Or.inl ⟨?_, ?_⟩ <;> omega) | (refine Or.inr ⟨?_, ?_⟩ <;> omega)))
local macro_rules | `(tactic| walk_at "heap") => `(tactic| first | assumption | exact upd_same | exact Or.inl (by assumption) | exact Or.inl upd_same)
local macro_rules | `(tactic| walk_at "item") => `(tactic| first | exact rfl | exact atI_nat (j := 0) rfl | exact atI_nat (j := 1) rfl | exact atI_nat (j := 2) rfl | assumption)
local macro_rules | `(tactic| walk_at "rd") => `(tactic| repeat (first
  | ((with_reducible refine' go_var ?hv ?_); (case hv => exact rfl))
  | with_reducible refine' go_c ?_
  | with_reducible refine' go_op ?_
  | with_reducible refine' go_seq ?_
  | with_reducible refine' go_asg ?_
  | with_reducible refine' go_name ?_
  | with_reducible refine' go_cons ?_
  | with_reducible refine' go_nil ?_
  | with_reducible refine' go_cb ?_
  | with_reducible refine' go_call ?_
  | with_reducible refine' go_ifS ?_
  | with_reducible refine' go_test ?_
  | with_reducible refine' go_bl ?_
  | with_reducible refine' go_ret ?_
  | with_reducible refine' go_I0 ?_
  | ((with_reducible refine' go_I ?cc ?_); (case cc => walk_at "side"))
  | ((with_reducible refine' go_ixL ?hh ?hk ?_); (case hh => walk_at "heap"); (case hk => walk_at "item"))
  | ((with_reducible refine' go_ixT ?hh ?hk ?_); (case hh => walk_at "heap"); (case hk => walk_at "item"))
  | ((with_reducible refine' go_lenL ?hh ?_); (case hh => walk_at "heap"))
  | ((with_reducible refine' go_lenT ?hh ?_); (case hh => walk_at "heap"))
  | ((with_reducible refine' go_setL ?hh ?hk ?_); (case hh => walk_at "heap"); (case hk => walk_at "item"))
  | with_reducible refine' go_abs ?_
  | with_reducible refine' go_max ?_
  | with_reducible refine' go_min ?_
  | with_reducible refine' go_int ?_
  | with_reducible refine' go_intB ?_
  | (with_reducible refine' go_eq rfl ?_)
  | (with_reducible refine' go_ne rfl ?_)
  | with_reducible refine' go_isN ?_
  | with_reducible refine' go_notN ?_
  | with_reducible refine' go_if ?_
  | with_reducible refine' go_sub ?_
  | with_reducible refine' go_par ?_
  | with_reducible refine' go_sl ?_
  | with_reducible refine' go_part ?_
  | with_reducible refine' go_pint ?_
  | with_reducible refine' go_nopart ?_
  | ((with_reducible refine' go_lenL ?hh ?_); (case hh => walk_at "heap"))
  | ((with_reducible refine' go_lenT ?hh ?_); (case hh => walk_at "heap"))
  | ((with_reducible refine' go_lenS ?hh ?_); (case hh => assumption))
  | with_reducible refine' go_gcons ?_
  | with_reducible refine' go_gnil ?_
  | with_reducible refine' go_kw ?_
  | with_reducible refine' go_par2 ?_
  | with_reducible refine' go_next ?_
  | with_reducible refine' go_drop ?_
  | with_reducible refine' go_and ?_
  | with_reducible refine' go_or ?_
  | with_reducible refine' go_not ?_
  | with_reducible refine' go_B ?_
  | with_reducible refine' go_andV ?_
  | with_reducible refine' go_orV ?_
  | with_reducible refine' go_notV ?_
  | with_reducible refine' go_chain ?_
  | with_reducible refine' go_un ?_
  | with_reducible refine' go_U ?_
  | with_reducible refine' go_bm ?_
  | with_reducible refine' go_tup ?_
  | with_reducible refine' go_lst ?_
  | with_reducible refine' go_forR1 ?_
  | with_reducible refine' go_forR2 ?_
  | with_reducible refine' go_forL ?_
  | with_reducible refine' go_forT ?_
  | with_reducible refine' go_forE ?_
  | with_reducible refine' go_lcR1 ?_
  | with_reducible refine' go_lcL ?_
  | with_reducible refine' go_lcT ?_
  | ((with_reducible refine' go_tyL ?hh ?_); (case hh => walk_at "heap"))
  | ((with_reducible refine' go_new ?hz ?_); (case hz => exact Nat.le_of_ble_eq_true rfl))
  | with_reducible refine' go_par3 ?_
  | with_reducible refine' go_three ?_
  | with_reducible refine' go_m1 ?_
  | with_reducible refine' go_isS ?_
  | with_reducible refine' go_rSw ?_
  | with_reducible refine' go_rFnd ?_
  | ((with_reducible refine' go_rPrt (by decide +kernel) ?hz ?_); (case hz => walk_at "len"))
  | ((with_reducible refine' go_rSpl (by decide +kernel) ?hz ?_); (case hz => walk_at "len"))
  | ((with_reducible refine' go_rLenS ?hz ?_); (case hz => walk_at "len"))
  | ((with_reducible refine' go_slS ?hz ?_); (case hz => walk_at "len"))
  | with_reducible refine' go_sgn ?_
  | with_reducible refine' go_nsg ?_
  | with_reducible refine' go_lcS ?_
  | (with_reducible refine' ⟨_, rfl, ?_⟩)
  ))
--MACEND
def spLooks : Sp := fun vs H Q _ => ∃ (j : Addr) (top : Int) (n : Nat), vs = [.ref j, .int top] ∧ JarAt n H j ∧ n < 2 ^ 40 ∧ 1 ≤ top ∧ top < 2 ^ 200 ∧
  ∀ (l : Addr) (xs : List V) (ls : List Lk) (H' : Hp), ls ≠ [] → ls.length ≤ 6 → (∀ s ∈ ls, -top ≤ s.dial ∧ s.dial ≤ top ∧ ∀ b, s.band = some b → 0 ≤ b.1 ∧ b.1 ≤ b.2 ∧ b.2 ≤ 2 * top) → JarAt (n + 100) H' j → Jx [j] H H' → H l = none → l ≠ j →
    H' l = some (.lst xs) → Tps H' xs (ls.map Lk.vals) → Q (.ref l) H'
section
variable {P : Program} {w : World} {K : PySem.W.Frag} {mg : Str → Option Value} {base : Heap}
end
end Kx

set_option Elab.async false
set_option linter.all false
set_option maxRecDepth 100000
set_option maxHeartbeats 2000000
namespace Kx
open PySem PySem.Spec PyProof.Rows L2 HX TL
/-! ### what is written is read back -/
theorem words_eq (t : Str) : words t = spl [32] 0 [] (tl t) := by
  have e : tl (Str.ofString " ") = [32] := by decide +kernel
  have := split_spl t (Str.ofString " ") (by rw [e]; simp) (kind_ok (by decide +kernel))
  rw [e] at this
  exact this
theorem numL_first (n : Nat) : ∃ c r, numL n = c :: r ∧ 48 ≤ c ∧ c ≤ 57 := by
  cases h : numL n with
  | nil => exact absurd h (numL_ne n)
  | cons c r =>
    have := numL_digits n c (by rw [h]; exact List.mem_cons_self)
    exact ⟨c, r, rfl, this⟩
theorem numL_head : ∀ (n : Nat), n ≠ 0 → (numL n).head? ≠ some 48
  | n, h0 => by
    by_cases h : n < 10
    · rw [numL_lt h]
      intro e
      have := Option.some.inj e
      omega
    · have ih := numL_head (n / 10) (by omega)
      obtain ⟨c, r, e, _⟩ := numL_first (n / 10)
      rw [numL_step (by omega), e] 
      rw [e] at ih
      exact ih
theorem neg_num (n : Nat) : neg (numL n) = false := by
  obtain ⟨c, r, e, h1, h2⟩ := numL_first n
  unfold neg
  rw [e]
  exact decide_eq_false fun z => by have := Option.some.inj z; omega
theorem neg_dash (l : List Nat) : neg (45 :: l) = true := rfl
theorem shaped_num {n : Nat} (h : n < 10 ^ 30) : shaped (numL n) = true := by
  unfold shaped
  rw [Bool.and_eq_true, decide_eq_true_eq]
  refine ⟨⟨?_, numL_len (by decide) h⟩, dig_all (numL_digits n)⟩
  have := numL_ne n
  cases e : numL n with
  | nil => exact absurd e this
  | cons c r => simp
theorem readN_num {n : Nat} (h : n < 10 ^ 30) : readN (numL n) = some (n : Int) := by
  have ed : digs (numL n) = numL n := by unfold digs; rw [neg_num]; rfl
  unfold readN
  rw [ed, shaped_num h, if_pos rfl, neg_num, if_neg, if_neg (by decide), numL_val]
  rintro ⟨e1, e2⟩
  by_cases z : n = 0
  · rw [z] at e2; exact e2 (by decide)
  · exact numL_head n z e1
theorem readN_neg {n : Nat} (h : n < 10 ^ 30) (z : n ≠ 0) : readN (45 :: numL n) = some (-(n : Int)) := by
  have ed : digs (45 :: numL n) = numL n := rfl
  unfold readN
  rw [ed, shaped_num h, if_pos rfl, neg_dash, if_neg, if_pos rfl, numL_val]
  rintro ⟨e1, e2⟩
  exact numL_head n z e1
theorem readN_int {i : Int} (h : Small 30 i) : readN (intL i) = some i := by
  unfold Small at h
  unfold intL
  split
  · rw [readN_neg h (by omega)]
    congr 1; omega
  · rw [readN_num h]
    congr 1; omega
theorem intL_nat {i : Int} (h : 0 ≤ i) : intL i = numL i.natAbs := by unfold intL; rw [if_neg (by omega)]
theorem natN_int {i : Int} (h0 : 0 ≤ i) (h : Small 30 i) : natN (intL i) = some i := by
  unfold natN
  rw [readN_int h, intL_nat h0, neg_num]
  rfl
theorem intL_free {i : Int} {s : Nat} (h : s < 45 ∨ 57 < s ∨ s = 46 ∨ s = 47) : s ∉ intL i := fun m => by
  unfold intL at m
  split at m
  · rcases List.mem_cons.mp m with e | m
    · omega
    · have := numL_digits _ s m; omega
  · have := numL_digits _ s m; omega
theorem bandN_int {a b : Int} (h0 : 0 ≤ a) (h1 : a ≤ b) (ha : Small 30 a) (hb : Small 30 b) : bandN (intL a ++ ([46, 46] ++ intL b)) = some (a, b) := by
  unfold bandN
  have := par_part1 (s := 46) (S := [46]) (p := intL a) (rest := intL b) (acc := []) (intL_free (.inr (.inr (.inl rfl))))
  rw [show intL a ++ ([46, 46] ++ intL b) = intL a ++ (46 :: [46] ++ intL b) from rfl, this]
  dsimp only
  rw [List.nil_append, natN_int h0 ha, natN_int (Int.le_trans h0 h1) hb]
  dsimp only
  rw [if_pos h1]
theorem tl_m : tl (Str.ofString "m") = [109] ∧ tl (Str.ofString "d") = [100] ∧ tl (Str.ofString "p") = [112] ∧ tl (Str.ofString "..") = [46, 46] ∧ tl (Str.ofString "/") = [47] ∧ tl (Str.ofString "=") = [61] ∧ tl (Str.ofString "-") = [45] ∧ tl (Str.ofString " ") = [32] := by decide +kernel
/-- stages whose words are read back -/
def Stg.fit : Stg → Prop
  | .mix lo => 0 ≤ lo ∧ Small 30 lo
  | .dial a => Small 30 a
  | .pass a b => 0 ≤ a ∧ a ≤ b ∧ Small 30 a ∧ Small 30 b
def Lk.fit (l : Lk) : Prop := Small 30 l.dial ∧ ∀ b, l.band = some b → 0 ≤ b.1 ∧ b.1 ≤ b.2 ∧ Small 30 b.1 ∧ Small 30 b.2
theorem stgL (s : Stg) : tl (stgS s) = match s with
    | .mix lo => 109 :: intL lo
    | .dial a => 100 :: intL a
    | .pass a b => 112 :: (intL a ++ ([46, 46] ++ intL b)) := by
  obtain ⟨h1, h2, h3, h4, _⟩ := tl_m
  cases s with
  | mix lo => rw [stgS, tl_append, tl_int, h1]; rfl
  | dial lo => rw [stgS, tl_append, tl_int, h2]; rfl
  | pass a b => rw [stgS, tl_append, tl_append, tl_append, tl_int, tl_int, h3, h4]; simp
theorem stgN_back {s : Stg} (h : s.fit) : stgN (tl (stgS s)) = some s := by
  rw [stgL]
  cases s with
  | mix lo =>
    show (natN (intL lo)).map Stg.mix = _
    rw [natN_int h.1 h.2]; rfl
  | dial a =>
    show (readN (intL a)).map Stg.dial = _
    rw [readN_int h]; rfl
  | pass a b =>
    show (bandN (intL a ++ ([46, 46] ++ intL b))).map (fun b => Stg.pass b.1 b.2) = _
    rw [bandN_int h.1 h.2.1 h.2.2.1 h.2.2.2]; rfl
theorem stg_free {s : Stg} : 32 ∉ tl (stgS s) := fun m => by
  rw [stgL] at m
  have f : ∀ i : Int, 32 ∉ intL i := fun i => intL_free (.inl (by decide))
  cases s with
  | mix lo => rcases List.mem_cons.mp m with e | m; (· cases e); exact f _ m
  | dial lo => rcases List.mem_cons.mp m with e | m; (· cases e); exact f _ m
  | pass a b =>
    rcases List.mem_cons.mp m with e | m
    · cases e
    · rcases List.mem_append.mp m with m | m
      · exact f _ m
      · rcases List.mem_append.mp m with m | m
        · simp at m
        · exact f _ m
theorem rateL (r : Int) : tl (Str.ofString "/" ++ nS r) = 47 :: intL r := by
  rw [tl_append, tl_int, tl_m.2.2.2.2.1]; rfl
theorem rateN_back {r : Int} (h2 : 2 ≤ r) (h : Small 30 r) : rateN (47 :: intL r) = some r := by
  unfold rateN
  show ge2 (natN (intL r)) = _
  rw [natN_int (by omega) h]
  unfold ge2
  dsimp only
  rw [if_pos h2]
theorem rate_free {r : Int} : 32 ∉ 47 :: intL r := fun m => by
  rcases List.mem_cons.mp m with e | m
  · cases e
  · exact intL_free (.inl (by decide)) m
theorem lkL (l : Lk) : tl (lkS l) = intL l.dial ++ ([61] ++ match l.band with
    | none => [45]
    | some b => intL b.1 ++ ([46, 46] ++ intL b.2)) := by
  obtain ⟨h1, h2, h3, h4, h5, h6, h7, h8⟩ := tl_m
  obtain ⟨d, b⟩ := l
  cases b with
  | none => unfold lkS; dsimp only; rw [tl_append, tl_append, tl_int, h6, h7]; simp
  | some b => unfold lkS; dsimp only; rw [tl_append, tl_append, tl_append, tl_append, tl_int, tl_int, tl_int, h6, h4]; simp
theorem band_dash {a : Int} {r : List Nat} (h0 : 0 ≤ a) : intL a ++ ([46, 46] ++ r) ≠ [45] := fun e => by
  have : (intL a ++ ([46, 46] ++ r)).length = 1 := by rw [e]; rfl
  simp at this
  omega
theorem lookN_back {l : Lk} (h : l.fit) : lookN (tl (lkS l)) = some l := by
  rw [lkL]
  obtain ⟨d, b⟩ := l
  have hc : ∀ r, cutEq (intL d ++ ([61] ++ r)) = (intL d, r) := fun r => by
    unfold cutEq
    have := par_part1 (s := 61) (S := []) (p := intL d) (rest := r) (acc := []) (intL_free (.inr (.inl (by decide))))
    rw [show intL d ++ ([61] ++ r) = intL d ++ (61 :: [] ++ r) from rfl, this]
    rfl
  unfold lookN
  dsimp only
  rw [hc, readN_int h.1]
  dsimp only
  cases b with
  | none => rw [if_pos rfl]
  | some b =>
    obtain ⟨q1, q2, q3, q4⟩ := h.2 b rfl
    dsimp only
    rw [if_neg (band_dash q1), bandN_int q1 q2 q3 q4]
    rfl
theorem lk_free {l : Lk} : 32 ∉ tl (lkS l) := fun m => by
  rw [lkL] at m
  have f : ∀ i : Int, 32 ∉ intL i := fun i => intL_free (.inl (by decide))
  obtain ⟨d, b⟩ := l
  cases b with
  | none =>
    rcases List.mem_append.mp m with m | m
    · exact f _ m
    · simp at m
  | some b =>
    rcases List.mem_append.mp m with m | m
    · exact f _ m
    · rcases List.mem_append.mp m with m | m
      · simp at m
      · rcases List.mem_append.mp m with m | m
        · exact f _ m
        · rcases List.mem_append.mp m with m | m
          · simp at m
          · exact f _ m
theorem dials_cat (a b : List Stg) : dials (a ++ b) = dials a + dials b := by simp [dials]
theorem parR_back : ∀ (ss pr : List Stg) (i : Nat) (rest : List (List Nat)), (∀ s ∈ ss, s.fit) → dials (pr ++ ss) ≤ 1 → (pr ++ ss).length ≤ 8 →
    parR (ss.map (fun s => tl (stgS s)) ++ rest) i pr none = parR rest (i + ss.length) (pr ++ ss) none
  | [], pr, i, rest, _, _, _ => by simp
  | s :: ss, pr, i, rest, hf, hd, hl => by
    have hm : mayF pr s = true := by
      unfold mayF
      rw [List.length_append, List.length_cons] at hl
      rw [Bool.and_eq_true, decide_eq_true_eq, Bool.or_eq_true, decide_eq_true_eq]
      refine ⟨by omega, ?_⟩
      cases q : s.isDial with
      | false => exact .inl rfl
      | true =>
        refine .inr ?_
        rw [dials_cat] at hd
        have : 1 ≤ dials (s :: ss) := by unfold dials; rw [List.filter_cons, q, if_pos rfl]; simp
        omega
    have ih := parR_back ss (pr ++ [s]) (i + 1) rest (fun x hx => hf x (List.mem_cons_of_mem _ hx)) (by simpa using hd) (by simpa using hl)
    rw [List.map_cons, List.cons_append, parR, stgN_back (hf s List.mem_cons_self)]
    rw [show (some s).filter (mayF pr) = some s from by simp [Option.filter, hm]]
    dsimp only
    rw [ih]
    simp only [List.append_assoc, List.singleton_append, List.length_cons]
    rw [show i + 1 + ss.length = i + (ss.length + 1) from by omega]
theorem parL_back : ∀ (ls pr : List Lk) (i : Nat), (∀ l ∈ ls, l.fit) → (pr ++ ls).length ≤ 6 → parL (ls.map fun l => tl (lkS l)) i pr = .ok (pr ++ ls)
  | [], pr, i, _, _ => by simp [parL]
  | l :: ls, pr, i, hf, hl => by
    have ih := parL_back ls (pr ++ [l]) (i + 1) (fun x hx => hf x (List.mem_cons_of_mem _ hx)) (by simpa using hl)
    rw [List.map_cons, parL, lookN_back (hf l List.mem_cons_self)]
    dsimp only
    rw [List.length_append, List.length_cons] at hl
    rw [if_neg (by omega), ih]
    simp
theorem set_back {ss : List Stg} {r : Option Int} (hne : ss ≠ []) (h8 : ss.length ≤ 8) (h1 : dials ss ≤ 1) (hf : ∀ s ∈ ss, s.fit) (hr : ∀ x, r = some x → 2 ≤ x ∧ Small 30 x) : parR (words (setS ss r)) 0 [] none = .ok (ss, r) := by
  have e : words (setS ss r) = ss.map (fun s => tl (stgS s)) ++ (rateS r).map tl := by
    rw [words_eq, setS, join_eq, tl_join, tl_m.2.2.2.2.2.2.2, spl_join]
    · rw [List.map_append, List.map_map]; rfl
    · intro z
      have := congrArg List.length z
      simp at this
      exact hne this.1
    · intro p hp
      obtain ⟨y, hy, rfl⟩ := List.mem_map.mp hp
      rcases List.mem_append.mp hy with hy | hy
      · obtain ⟨s, _, rfl⟩ := List.mem_map.mp hy
        exact stg_free
      · cases r with
        | none => cases hy
        | some r =>
          rw [rateS, List.mem_singleton] at hy
          rw [hy, rateL]
          exact rate_free
  rw [e, parR_back ss [] 0 _ hf (by simpa using h1) (by simpa using h8)]
  rw [List.nil_append]
  cases r with
  | none => simp [rateS, parR]
  | some r =>
    obtain ⟨h2, hs⟩ := hr r rfl
    rw [rateS, List.map_cons, List.map_nil, rateL, parR]
    rw [show (stgN (47 :: intL r)).filter (mayF ss) = none from rfl]
    dsimp only
    rw [if_neg hne, rateN_back h2 hs]
    simp [parR]
theorem looks_back {ls : List Lk} (hne : ls ≠ []) (h6 : ls.length ≤ 6) (hf : ∀ l ∈ ls, l.fit) : parL (words (looksS ls)) 0 [] = .ok ls := by
  have e : words (looksS ls) = ls.map fun l => tl (lkS l) := by
    rw [words_eq, looksS, join_eq, tl_join, tl_m.2.2.2.2.2.2.2, spl_join]
    · rw [List.map_map]; rfl
    · intro z
      have := congrArg List.length z
      simp at this
      exact hne this
    · intro p hp
      obtain ⟨y, hy, rfl⟩ := List.mem_map.mp hp
      obtain ⟨s, _, rfl⟩ := List.mem_map.mp hy
      exact lk_free
  rw [e, parL_back ls [] 0 hf (by simpa using h6)]
  simp
theorem Stg.fit.small {s : Stg} (h : s.fit) : s.small 30 := by
  cases s with
  | mix lo => exact h.2
  | dial a => exact h
  | pass a b => exact h.2.2
theorem Lk.fit.small {l : Lk} (h : l.fit) : l.small 30 := ⟨h.1, fun b e => (h.2 b e).2.2⟩
end Kx

set_option Elab.async false
set_option linter.all false
set_option maxRecDepth 100000
set_option maxHeartbeats 4000000

namespace Kx
open PySem PySem.Spec PyProof.Rows L2 HX TL
open Evl (Ex)
local macro_rules | `(tactic| walk_at "len") => `(tactic| first | assumption | exact le_line (by assumption) | exact le_line (by omega) | exact le_line (Nat.le_trans (cutS_length _ _ _) (by omega)) | (rw [sizeLine_eq]; omega))
local macro_rules | `(tactic| walk_at "side") => `(tactic| first | assumption | ((try dsimp only); first | assumption | decide +kernel | omega | exact ⟨by decide, by decide⟩ | (left; decide) | (left; omega) | (refine Or.inl ⟨?_, ?_⟩ <;> omega) | (refine Or.inr ⟨?_, ?_⟩ <;> omega)))
local macro_rules | `(tactic| walk_at "heap") => `(tactic| first | assumption | exact upd_same | exact Or.inl (by assumption) | exact Or.inl upd_same)
local macro_rules | `(tactic| walk_at "item") => `(tactic| first | exact rfl | exact atI_nat (j := 0) rfl | exact atI_nat (j := 1) rfl | exact atI_nat (j := 2) rfl | assumption)
local macro_rules | `(tactic| walk_at "rd") => `(tactic| repeat (first
  | ((with_reducible refine' go_var ?hv ?_); (case hv => exact rfl))
  | with_reducible refine' go_c ?_
  | with_reducible refine' go_op ?_
  | with_reducible refine' go_seq ?_
  | with_reducible refine' go_asg ?_
  | with_reducible refine' go_name ?_
  | with_reducible refine' go_cons ?_
  | with_reducible refine' go_nil ?_
  | with_reducible refine' go_cb ?_
  | with_reducible refine' go_call ?_
  | with_reducible refine' go_ifS ?_
  | with_reducible refine' go_test ?_
  | with_reducible refine' go_bl ?_
  | with_reducible refine' go_ret ?_
  | with_reducible refine' go_I0 ?_
  | ((with_reducible refine' go_I ?cc ?_); (case cc => walk_at "side"))
  | ((with_reducible refine' go_ixL ?hh ?hk ?_); (case hh => walk_at "heap"); (case hk => walk_at "item"))
  | ((with_reducible refine' go_ixT ?hh ?hk ?_); (case hh => walk_at "heap"); (case hk => walk_at "item"))
  | ((with_reducible refine' go_lenL ?hh ?_); (case hh => walk_at "heap"))
  | ((with_reducible refine' go_lenT ?hh ?_); (case hh => walk_at "heap"))
  | ((with_reducible refine' go_setL ?hh ?hk ?_); (case hh => walk_at "heap"); (case hk => walk_at "item"))
  | with_reducible refine' go_abs ?_
  | with_reducible refine' go_max ?_
  | with_reducible refine' go_min ?_
  | with_reducible refine' go_int ?_
  | with_reducible refine' go_intB ?_
  | (with_reducible refine' go_eq rfl ?_)
  | (with_reducible refine' go_ne rfl ?_)
  | with_reducible refine' go_isN ?_
  | with_reducible refine' go_notN ?_
  | with_reducible refine' go_if ?_
  | with_reducible refine' go_sub ?_
  | with_reducible refine' go_par ?_
  | with_reducible refine' go_sl ?_
  | with_reducible refine' go_part ?_
  | with_reducible refine' go_pint ?_
  | with_reducible refine' go_nopart ?_
  | ((with_reducible refine' go_lenL ?hh ?_); (case hh => walk_at "heap"))
  | ((with_reducible refine' go_lenT ?hh ?_); (case hh => walk_at "heap"))
  | ((with_reducible refine' go_lenS ?hh ?_); (case hh => assumption))
  | with_reducible refine' go_gcons ?_
  | with_reducible refine' go_gnil ?_
  | with_reducible refine' go_kw ?_
  | with_reducible refine' go_par2 ?_
  | with_reducible refine' go_next ?_
  | with_reducible refine' go_drop ?_
  | with_reducible refine' go_and ?_
  | with_reducible refine' go_or ?_
  | with_reducible refine' go_not ?_
  | with_reducible refine' go_B ?_
  | with_reducible refine' go_andV ?_
  | with_reducible refine' go_orV ?_
  | with_reducible refine' go_notV ?_
  | with_reducible refine' go_chain ?_
  | with_reducible refine' go_un ?_
  | with_reducible refine' go_U ?_
  | with_reducible refine' go_bm ?_
  | with_reducible refine' go_tup ?_
  | with_reducible refine' go_lst ?_
  | with_reducible refine' go_forR1 ?_
  | with_reducible refine' go_forR2 ?_
  | with_reducible refine' go_forL ?_
  | with_reducible refine' go_forT ?_
  | with_reducible refine' go_forE ?_
  | with_reducible refine' go_lcR1 ?_
  | with_reducible refine' go_lcL ?_
  | with_reducible refine' go_lcT ?_
  | ((with_reducible refine' go_tyL ?hh ?_); (case hh => walk_at "heap"))
  | ((with_reducible refine' go_new ?hz ?_); (case hz => exact Nat.le_of_ble_eq_true rfl))
  | with_reducible refine' go_par3 ?_
  | with_reducible refine' go_three ?_
  | with_reducible refine' go_m1 ?_
  | with_reducible refine' go_isS ?_
  | with_reducible refine' go_rSw ?_
  | with_reducible refine' go_rFnd ?_
  | ((with_reducible refine' go_rPrt (by decide +kernel) ?hz ?_); (case hz => walk_at "len"))
  | ((with_reducible refine' go_rSpl (by decide +kernel) ?hz ?_); (case hz => walk_at "len"))
  | ((with_reducible refine' go_rLenS ?hz ?_); (case hz => walk_at "len"))
  | ((with_reducible refine' go_slS ?hz ?_); (case hz => walk_at "len"))
  | with_reducible refine' go_sgn ?_
  | with_reducible refine' go_nsg ?_
  | with_reducible refine' go_lcS ?_
  | (with_reducible refine' ⟨_, rfl, ?_⟩)
  ))
--MACEND
def spStgW : Sp := fun vs H Q _ => ∃ (a : Addr) (s : Stg) (k : Nat), vs = [.ref a] ∧ H a = some (.tup s.vals) ∧ 0 < k ∧ k ≤ 100 ∧ s.small k ∧ ∀ H', Ex H H' → Q (.str (stgS s)) H'
def spLkW : Sp := fun vs H Q _ => ∃ (a : Addr) (l : Lk) (k : Nat), vs = [.ref a] ∧ H a = some (.tup l.vals) ∧ 0 < k ∧ k ≤ 100 ∧ l.small k ∧ ∀ H', Ex H H' → Q (.str (lkS l)) H'
theorem emp_app (y : Str) : Str.empty ++ y = y := ext_tl (by rw [tl_append]; rfl)
theorem go_tjC {y acc : Str} {ts : List TE} {σ : L2.St} {H : Hp} {Q : Str → Hp → Prop} (h : (acc ++ y).length ≤ sizeLine) (q : tJs ts (acc ++ y) σ H Q) : tJs (tC (.str y) :: ts) acc σ H Q := ⟨y, rfl, h, q⟩
def fmtOk (ts : List TE) (acc : Str) (σ : L2.St) (Q : Str → Hp → Prop) : VK := fun x H1 => (∃ y : Str, x = .str y ∧ y.length ≤ sizeLine ∧ ∃ y2 : Str, V.str y = .str y2 ∧ (acc ++ y2).length ≤ sizeLine ∧ tJs ts (acc ++ y2) σ H1 Q) ∨
  ∃ i : Int, x = .int i ∧ i.natAbs.log2 < 1920 ∧ ∃ y2 : Str, V.str (nS i) = .str y2 ∧ (acc ++ y2).length ≤ sizeLine ∧ tJs ts (acc ++ y2) σ H1 Q
theorem go_tjF {acc : Str} {te : TE} {ts : List TE} {σ : L2.St} {H : Hp} {Q : Str → Hp → Prop} (q : te σ H (fmtOk ts acc σ Q)) : tJs (tFmt te :: ts) acc σ H Q := q
theorem go_fI {acc : Str} {ts : List TE} {σ : L2.St} {H : Hp} {Q : Str → Hp → Prop} {i : Int} (hl : i.natAbs.log2 < 1920) (h : (acc ++ nS i).length ≤ sizeLine) (q : tJs ts (acc ++ nS i) σ H Q) : fmtOk ts acc σ Q (.int i) H := .inr ⟨i, rfl, hl, _, rfl, h, q⟩
theorem go_tjN {acc : Str} {σ : L2.St} {H : Hp} {Q : Str → Hp → Prop} (q : Q acc H) : tJs [] acc σ H Q := q
theorem same_str {x y : Str} {Q : VK} {H : Hp} (q : Q (.str x) H) (e : x = y) : Q (.str y) H := e ▸ q
theorem emp_len : (Str.empty).length = 0 := rfl
theorem eqd_len : (Str.ofString "=-").length = 2 := by decide +kernel
theorem eqd_cat : Str.ofString "=-" = Str.ofString "=" ++ Str.ofString "-" := by decide +kernel
theorem app_assoc (a b c : Str) : a ++ b ++ c = a ++ (b ++ c) := ext_tl (by simp only [tl_append, List.append_assoc])
section
variable {P : Program} {w : World} {K : PySem.W.Frag} {mg : Str → Option Value} {base : Heap}
abbrev s__stage_word : Stmt := top 25
theorem sc__stage_word : FnScope ["stage"] ["stage"] (defScope s__stage_word) := ⟨rfl, rfl, rfl, by decide +kernel, rfl, by decide +kernel, by decide +kernel⟩
theorem ok_stage_word {f : Addr} {fd : FuncData} (F : Fun K "_stage_word" "_stage_word" s__stage_word f fd) : FnOk P w K mg base CX0 1 f fd ["stage"] spStgW := by
  refine F.ok sc__stage_word (fun vs H Q E h => ?_) (fun cdv A outer s H vs Q E hr h => ?_)
  · obtain ⟨a, s, k, rfl, _⟩ := h
    rfl
  · obtain ⟨a, st, kk, rfl, ha, hk0, hk1, hs, k⟩ := h
    refine ⟨_, (pss_cons (ps_if (pt_cmpR op_eq (pe_ix ix_tup (pv 0) pe_int (fun _ _ => rfl)) pe_str (nomark _))
  (pss_one (ps_ret (pe_joined (PJ.cons pe_str (PJ.cons (pe_fmt (pe_ix ix_tup (pv 0) pe_int (fun _ _ => rfl))) PJ.nil)))))
  pss_nil)
  (pss_cons (ps_if (pt_cmpR op_eq (pe_ix ix_tup (pv 0) pe_int (fun _ _ => rfl)) pe_str (nomark _))
  (pss_one (ps_ret (pe_joined (PJ.cons pe_str (PJ.cons (pe_fmt (pe_ix ix_tup (pv 0) pe_int (fun _ _ => rfl))) PJ.nil)))))
  pss_nil)
  (pss_one (ps_ret (pe_joined (PJ.cons pe_str (PJ.cons (pe_fmt (pe_ix ix_tup (pv 0) pe_int (fun _ _ => rfl))) (PJ.cons pe_str (PJ.cons (pe_fmt (pe_ix ix_tup (pv 0) pe_int (fun _ _ => rfl))) PJ.nil))))))))), ?_⟩
    obtain ⟨l1, l2, l3, l4, l5, l6, l7, l8⟩ := one_len
    have l0 := emp_len
    have sz := sizeLine_eq
    cases st with
    | mix lo =>
      have q1 := small_len hk0 hs
      walk_at "rd"
      refine iteT ?_
      walk_at "rd"
      refine go_tjC (by simp only [len_app]; omega) (go_tjF ?_)
      walk_at "rd"
      refine go_fI (small_log hk1 hs) (by simp only [len_app]; omega) (go_tjN ?_)
      exact same_str (k H (Ex.refl _)) (by rw [emp_app]; rfl)
    | dial lo =>
      have q1 := small_len hk0 hs
      walk_at "rd"
      refine iteF ?_
      walk_at "rd"
      refine iteT ?_
      walk_at "rd"
      refine go_tjC (by simp only [len_app]; omega) (go_tjF ?_)
      walk_at "rd"
      refine go_fI (small_log hk1 hs) (by simp only [len_app]; omega) (go_tjN ?_)
      exact same_str (k H (Ex.refl _)) (by rw [emp_app]; rfl)
    | pass x y =>
      have q1 := small_len hk0 hs.1
      have q2 := small_len hk0 hs.2
      walk_at "rd"
      refine iteF ?_
      walk_at "rd"
      refine iteF ?_
      walk_at "rd"
      refine go_tjC (by simp only [len_app]; omega) (go_tjF ?_)
      walk_at "rd"
      refine go_fI (small_log hk1 hs.1) (by simp only [len_app]; omega) (go_tjC (by simp only [len_app]; omega) (go_tjF ?_))
      walk_at "rd"
      refine go_fI (small_log hk1 hs.2) (by simp only [len_app]; omega) (go_tjN ?_)
      exact same_str (k H (Ex.refl _)) (by rw [emp_app]; rfl)
abbrev s__look_word : Stmt := top 26
theorem sc__look_word : FnScope ["look", "dial", "least", "greatest"] ["look"] (defScope s__look_word) := ⟨rfl, rfl, rfl, by decide +kernel, rfl, by decide +kernel, by decide +kernel⟩
theorem ok_look_word {f : Addr} {fd : FuncData} (F : Fun K "_look_word" "_look_word" s__look_word f fd) : FnOk P w K mg base CX0 1 f fd ["look"] spLkW := by
  refine F.ok sc__look_word (fun vs H Q E h => ?_) (fun cdv A outer s H vs Q E hr h => ?_)
  · obtain ⟨a, s, k, rfl, _⟩ := h
    rfl
  · obtain ⟨a, l, kk, rfl, ha, hk0, hk1, hs, k⟩ := h
    refine ⟨_, (pss_cons (ps_asg (pv 0) (pg_tup (by rfl) (pgs_cons (pg_name (i := 1) sc__look_word.nd rfl (Or.inl rfl)) (pgs_cons (pg_name (i := 2) sc__look_word.nd rfl (Or.inl rfl)) (pgs_cons (pg_name (i := 3) sc__look_word.nd rfl (Or.inl rfl)) pgs_nil)))))
  (pss_one (ps_ret (pe_ifExp (pt_cmpR op_isN1 (pv 2) pe_non (nomark _)) (pe_joined (PJ.cons (pe_fmt (pv 1)) (PJ.cons pe_str PJ.nil))) (pe_joined (PJ.cons (pe_fmt (pv 1)) (PJ.cons pe_str (PJ.cons (pe_fmt (pv 2)) (PJ.cons pe_str (PJ.cons (pe_fmt (pv 3)) PJ.nil)))))))))), ?_⟩
    obtain ⟨l1, l2, l3, l4, l5, l6, l7, l8⟩ := one_len
    have l0 := emp_len
    have l9 := eqd_len
    have sz := sizeLine_eq
    obtain ⟨d, b⟩ := l
    have g0 := hs.1
    have q0 := small_len hk0 hs.1
    dsimp only at q0 g0
    cases b with
    | none =>
      have ha : H a = some (.tup [.int d, .non, .non]) := ha
      walk_at "rd"
      refine go_gtup (.inl (.inl ha)) rfl ?_
      walk_at "rd"
      refine iteT ?_
      refine go_tjF ?_
      walk_at "rd"
      refine go_fI (small_log hk1 g0) (by simp only [len_app]; omega) (go_tjC (by simp only [len_app]; omega) (go_tjN ?_))
      exact same_str (k H (Ex.refl _)) (by rw [emp_app, eqd_cat, ← app_assoc]; rfl)
    | some b =>
      have g1 := (hs.2 b rfl).1
      have g2 := (hs.2 b rfl).2
      have q1 := small_len hk0 g1
      have q2 := small_len hk0 g2
      have ha : H a = some (.tup [.int d, .int b.1, .int b.2]) := ha
      walk_at "rd"
      refine go_gtup (.inl (.inl ha)) rfl ?_
      walk_at "rd"
      refine iteF ?_
      refine go_tjF ?_
      walk_at "rd"
      refine go_fI (small_log hk1 g0) (by simp only [len_app]; omega) (go_tjC (by simp only [len_app]; omega) (go_tjF ?_))
      walk_at "rd"
      refine go_fI (small_log hk1 g1) (by simp only [len_app]; omega) (go_tjC (by simp only [len_app]; omega) (go_tjF ?_))
      walk_at "rd"
      refine go_fI (small_log hk1 g2) (by simp only [len_app]; omega) (go_tjN ?_)
      exact same_str (k H (Ex.refl _)) (by rw [emp_app]; unfold lkS; simp only [app_assoc])
abbrev s_format_receiver : Stmt := top 20
theorem sc_format_receiver : FnScope ["receiver", "stages", "rate", "words", "stage"] ["receiver"] (defScope s_format_receiver) := ⟨rfl, rfl, rfl, by decide +kernel, rfl, by decide +kernel, by decide +kernel⟩
theorem ok_format_receiver {f : Addr} {fd : FuncData} (F : Fun K "format_receiver" "format_receiver" s_format_receiver f fd) (h__stage_word : Has P w K mg base 1 "_stage_word" spStgW) : FnOk P w K mg base CX0 2 f fd ["receiver"] spSetT := by
  refine F.ok sc_format_receiver (fun vs H Q E h => ?_) (fun cdv A outer s H vs Q E hr h => ?_)
  · obtain ⟨p, ss, rate, k, rfl, _⟩ := h
    rfl
  · obtain ⟨p, ss, rate, kk, rfl, ⟨l, xs, hp, hl, hT⟩, h8, hk0, hk1, hss, hrt, k⟩ := h
    refine ⟨_, (pss_cons (ps_asg (pv 0) (pg_tup (by rfl) (pgs_cons (pg_name (i := 1) sc_format_receiver.nd rfl (Or.inl rfl)) (pgs_cons (pg_name (i := 2) sc_format_receiver.nd rfl (Or.inl rfl)) pgs_nil))))
  (pss_cons (ps_setLc (i := 3) (own := [("stage", 4)]) (g := gName 4) (by rfl) sc_format_receiver.nd rfl rfl (sw_true rfl rfl rfl (by decide +kernel)) (pi_list (pv 1)) (blkOk_by (own := [("stage", 4)]) (N := ["receiver", "stages", "rate", "words", "stage"]) (sc := defScope s_format_receiver) (by decide +kernel)) (fun _ _ _ _ _ => pg_name (i := 4) (sc_format_receiver).nd rfl (Or.inl rfl)) (fun _ _ _ _ _ => pts_nil) (fun _ _ _ _ _ => (pe_hs h__stage_word hr rfl (pa_cons (pv 4) pa_nil))))
  (pss_cons (ps_if (pt_cmpR op_notN1 (pv 2) pe_non (nomark _))
  (pss_one (ps_expr (pe_bm PySem.F.plainAttrs_list PySem.F.slot_list_append PySem.F.type_list_append mt_append (pv 3) (pa_cons (pe_joined (PJ.cons pe_str (PJ.cons (pe_fmt (pv 2)) PJ.nil))) pa_nil))))
  pss_nil)
  (pss_one (ps_ret (pe_m1 PySem.F.slot_str_join PySem.F.type_str_join mt_joi pe_str (pv 3))))))), ?_⟩
    obtain ⟨l1, l2, l3, l4, l5, l6, l7, l8⟩ := one_len
    have l0 := emp_len
    have sz := sizeLine_eq
    walk_at "rd"
    refine go_gtup (.inl (.inl hp)) rfl ?_
    walk_at "rd"
    refine ⟨⟨xs, .inl (.inl hl)⟩, ?_⟩
    have lenx : xs.length = ss.length := by rw [hT.len, List.length_map]
    refine run_lcL xs (fun D i G => H D = none ∧ Ex H G ∧ G D = some (.lst ((ss.take i).map fun s => V.str (stgS s)))) ?_ ?_ ?_ ?_
    · exact fun D hD => ⟨hD, Ex.new hD, upd_same⟩
    · rintro D i G _ ⟨_, e, _⟩
      exact .inl (.inl (e _ _ hl))
    · rintro D i v G hi ⟨hD, e, hG⟩
      obtain ⟨st, a, hst, rfl, ha⟩ := tps_at hT hi
      walk_at "rd"
      refine ⟨rfl, go_yes (iteT ?_)⟩
      walk_at "rd"
      refine ⟨a, st, kk, rfl, e _ _ ha, hk0, hk1, hss st (List.mem_of_getElem? hst), fun G' e' => ?_⟩
      have ht : ss.take (i + 1) = ss.take i ++ [st] := by rw [List.take_succ, hst]; rfl
      refine ⟨_, e' _ _ hG, ?_, hD, (e.trans e').mut hD, ?_⟩
      · rw [List.length_map, List.length_take, sz]; omega
      · rw [upd_same, ht, List.map_append]; rfl
    · rintro D G hD ⟨_, e, hG⟩
      rw [lenx, List.take_length] at hG
      have wl : ∀ (r : Option Int), (∀ x, r = some x → Small kk x) → (((ss.map stgS ++ rateS r).map (·.length)).sum + (ss.map stgS ++ rateS r).length * (Str.ofString " ").length ≤ 16777216) := fun r hr => by
        have := sum_le (l := ss.map stgS ++ rateS r) (m := 1000) fun y hy => by
          rcases List.mem_append.mp hy with hy | hy
          · obtain ⟨x, hx, rfl⟩ := List.mem_map.mp hy
            have := stgS_len hk0 (hss x hx)
            omega
          · cases r with
            | none => cases hy
            | some r =>
              rw [rateS, List.mem_singleton] at hy
              rw [hy, len_app]
              have := small_len hk0 (hr r rfl)
              omega
        have hl : (ss.map stgS ++ rateS r).length ≤ 9 := by
          rw [List.length_append, List.length_map]
          cases r <;> simp [rateS] <;> omega
        rw [l6]
        omega
      walk_at "rd"
      cases rate with
      | none =>
        refine iteF ?_
        walk_at "rd"
        refine go_rJoi (ys := ss.map stgS) (.inl (by rw [hG, List.map_map]; rfl)) (by have := wl none hrt; rw [rateS, List.append_nil] at this; exact this) ?_
        exact same_str (k _ e) (by rw [setS, rateS, List.append_nil])
      | some r =>
        have q1 := small_len hk0 (hrt r rfl)
        refine iteT ?_
        walk_at "rd"
        refine go_tjC (by simp only [len_app]; omega) (go_tjF ?_)
        walk_at "rd"
        refine go_fI (small_log hk1 (hrt r rfl)) (by simp only [len_app]; omega) (go_tjN ?_)
        walk_at "rd"
        refine go_app hG (by rw [List.length_map, sz]; omega) ?_
        walk_at "rd"
        refine go_rJoi (ys := ss.map stgS ++ rateS (some r)) (.inl (by rw [upd_same, List.map_append, List.map_map, rateS, emp_app]; rfl)) (wl _ hrt) ?_
        exact k _ (Ex.mut e hD)
abbrev s_format_looks : Stmt := top 21
theorem sc_format_looks : FnScope ["looks", "look"] ["looks"] (defScope s_format_looks) := ⟨rfl, rfl, rfl, by decide +kernel, rfl, by decide +kernel, by decide +kernel⟩
theorem ok_format_looks {f : Addr} {fd : FuncData} (F : Fun K "format_looks" "format_looks" s_format_looks f fd) (h__look_word : Has P w K mg base 1 "_look_word" spLkW) : FnOk P w K mg base CX0 2 f fd ["looks"] spLooksT := by
  refine F.ok sc_format_looks (fun vs H Q E h => ?_) (fun cdv A outer s H vs Q E hr h => ?_)
  · obtain ⟨l, xs, ls, k, rfl, _⟩ := h
    rfl
  · obtain ⟨l, xs, ls, kk, rfl, hl, hT, h8, hk0, hk1, hss, k⟩ := h
    refine ⟨_, (pss_one (ps_ret (pe_m1 PySem.F.slot_str_join PySem.F.type_str_join mt_joi pe_str (pe_lc (own := [("look", 1)]) (g := gName 1) (by rfl) (sc_format_looks).nd (pi_list (pv 0)) (blkOk_by (own := [("look", 1)]) (N := ["looks", "look"]) (sc := defScope s_format_looks) (by decide +kernel)) (fun _ _ _ _ _ => pg_name (i := 1) (sc_format_looks).nd rfl (Or.inl rfl)) (fun _ _ _ _ _ => pts_nil) (fun _ _ _ _ _ => (pe_hs h__look_word hr rfl (pa_cons (pv 1) pa_nil))))))), ?_⟩
    obtain ⟨l1, l2, l3, l4, l5, l6, l7, l8⟩ := one_len
    have sz := sizeLine_eq
    walk_at "rd"
    refine ⟨⟨xs, .inl (.inl hl)⟩, ?_⟩
    have lenx : xs.length = ls.length := by rw [hT.len, List.length_map]
    refine run_lcL xs (fun D i G => H D = none ∧ Ex H G ∧ G D = some (.lst ((ls.take i).map fun s => V.str (lkS s)))) ?_ ?_ ?_ ?_
    · exact fun D hD => ⟨hD, Ex.new hD, upd_same⟩
    · rintro D i G _ ⟨_, e, _⟩
      exact .inl (.inl (e _ _ hl))
    · rintro D i v G hi ⟨hD, e, hG⟩
      obtain ⟨st, a, hst, rfl, ha⟩ := tps_at hT hi
      walk_at "rd"
      refine ⟨rfl, go_yes (iteT ?_)⟩
      walk_at "rd"
      refine ⟨a, st, kk, rfl, e _ _ ha, hk0, hk1, hss st (List.mem_of_getElem? hst), fun G' e' => ?_⟩
      have ht : ls.take (i + 1) = ls.take i ++ [st] := by rw [List.take_succ, hst]; rfl
      refine ⟨_, e' _ _ hG, ?_, hD, (e.trans e').mut hD, ?_⟩
      · rw [List.length_map, List.length_take, sz]; omega
      · rw [upd_same, ht, List.map_append]; rfl
    · rintro D G hD ⟨_, e, hG⟩
      rw [lenx, List.take_length] at hG
      walk_at "rd"
      have wl : ((ls.map lkS).map (·.length)).sum + (ls.map lkS).length * (Str.ofString " ").length ≤ 16777216 := by
        have := sum_le (l := ls.map lkS) (m := 1000) fun y hy => by
          obtain ⟨x, hx, rfl⟩ := List.mem_map.mp hy
          have := lkS_len hk0 (hss x hx)
          omega
        rw [l6]
        rw [List.length_map] at this ⊢
        omega
      refine go_rJoi (ys := ls.map lkS) (.inl (by rw [hG, List.map_map]; rfl)) wl ?_
      exact k _ e
end
end Kx

set_option Elab.async false
set_option linter.all false
set_option maxRecDepth 100000
set_option maxHeartbeats 2000000
namespace Kx
open PySem PySem.Spec PyProof.Rows L2 HX TL
open Evl (Ex)
def Pl (w : Str) : Prop := ∀ c ∈ tl w, c < 1000
theorem pl_join {ys : List Str} (h : ∀ y ∈ ys, Pl y) : Pl (Txt.join (Str.ofString " ") ys) := by
  unfold Pl
  rw [join_eq, tl_join, show tl (Str.ofString " ") = [32] from by decide +kernel]
  induction ys with
  | nil => intro c hc; simp [joinL] at hc
  | cons a l ih =>
    cases l with
    | nil => intro c hc; exact h a List.mem_cons_self c (by simpa [joinL] using hc)
    | cons b l =>
      intro c hc
      rw [List.map_cons, List.map_cons, joinL] at hc
      rcases List.mem_append.mp hc with hc | hc
      · exact h a List.mem_cons_self c hc
      · rcases List.mem_append.mp hc with hc | hc
        · rw [List.mem_singleton.mp hc]; omega
        · exact ih (fun y hy => h y (List.mem_cons_of_mem _ hy)) c (by simpa using hc)
theorem Pl.app {a b : Str} (h : Pl a) (k : Pl b) : Pl (a ++ b) := fun c hc => by
  rw [tl_append] at hc
  rcases List.mem_append.mp hc with hc | hc
  · exact h c hc
  · exact k c hc
theorem pl_dec {s : Str} (h : (tl s).all (fun c => decide (c < 1000)) = true) : Pl s := fun c hc => of_decide_eq_true (List.all_eq_true.mp h c hc)
theorem pl_nS (i : Int) : Pl (nS i) := fun c hc => by
  rw [tl_int] at hc
  unfold intL at hc
  have hd : ∀ n : Nat, ∀ c ∈ numL n, c < 1000 := fun n c hc => by have := numL_digits n c hc; omega
  split at hc
  · rcases List.mem_cons.mp hc with rfl | hc
    · decide
    · exact hd _ _ hc
  · exact hd _ _ hc
theorem pl_one : Pl (Str.ofString "m") ∧ Pl (Str.ofString "d") ∧ Pl (Str.ofString "p") ∧ Pl (Str.ofString "..") ∧ Pl (Str.ofString "/") ∧ Pl (Str.ofString "=") ∧ Pl (Str.ofString "-") :=
  ⟨pl_dec (by decide +kernel), pl_dec (by decide +kernel), pl_dec (by decide +kernel), pl_dec (by decide +kernel), pl_dec (by decide +kernel), pl_dec (by decide +kernel), pl_dec (by decide +kernel)⟩
theorem pl_stgS (s : Stg) : Pl (stgS s) := by
  obtain ⟨h1, h2, h3, h4, _⟩ := pl_one
  cases s with
  | mix lo => exact h1.app (pl_nS lo)
  | dial lo => exact h2.app (pl_nS lo)
  | pass a b => exact ((h3.app (pl_nS a)).app h4).app (pl_nS b)
theorem pl_lkS (l : Lk) : Pl (lkS l) := by
  obtain ⟨h1, h2, h3, h4, h5, h6, h7⟩ := pl_one
  obtain ⟨d, b⟩ := l
  cases b with
  | none => exact ((pl_nS d).app h6).app h7
  | some b => exact ((pl_nS d).app h6).app (((pl_nS b.1).app h4).app (pl_nS b.2))
theorem pl_setS (ss : List Stg) (r : Option Int) : Pl (setS ss r) := pl_join fun y hy => by
  rcases List.mem_append.mp hy with hy | hy
  · obtain ⟨s, _, rfl⟩ := List.mem_map.mp hy
    exact pl_stgS s
  · cases r with
    | none => cases hy
    | some r =>
      rw [rateS, List.mem_singleton] at hy
      rw [hy]
      exact (pl_one.2.2.2.2.1).app (pl_nS r)
theorem pl_looksS (ls : List Lk) : Pl (looksS ls) := pl_join fun y hy => by
  obtain ⟨s, _, rfl⟩ := List.mem_map.mp hy
  exact pl_lkS s
theorem small_fine {i : Int} {k : Nat} (hk : k ≤ 100) (h : Small k i) : Fine 600 0 (.int i) := Fine.int (Nat.lt_of_lt_of_le h (Nat.le_trans (Nat.pow_le_pow_right (by decide) hk) (by decide +kernel)))
theorem stg_fine {s : Stg} {k : Nat} (hk : k ≤ 100) (h : s.small k) : Fine 1900 1 s.d := by
  have m1 : Fine 600 0 (.str "mix") := .str (by decide +kernel) (by decide +kernel)
  have m2 : Fine 600 0 (.str "dial") := .str (by decide +kernel) (by decide +kernel)
  have m3 : Fine 600 0 (.str "pass") := .str (by decide +kernel) (by decide +kernel)
  cases s with
  | mix lo =>
    refine (Fine.tuple (w := 600) (k := 0) (l := [.str "mix", .int lo]) fun x hx => ?_).mono (Nat.le_of_ble_eq_true rfl) (by decide)
    rcases List.mem_cons.mp hx with rfl | hx
    · exact m1
    · rw [List.mem_singleton.mp hx]; exact small_fine hk h
  | dial lo =>
    refine (Fine.tuple (w := 600) (k := 0) (l := [.str "dial", .int lo]) fun x hx => ?_).mono (Nat.le_of_ble_eq_true rfl) (by decide)
    rcases List.mem_cons.mp hx with rfl | hx
    · exact m2
    · rw [List.mem_singleton.mp hx]; exact small_fine hk h
  | pass lo hi =>
    refine (Fine.tuple (w := 600) (k := 0) (l := [.str "pass", .int lo, .int hi]) fun x hx => ?_).mono (Nat.le_of_ble_eq_true rfl) (by decide)
    rcases List.mem_cons.mp hx with rfl | hx
    · exact m3
    rcases List.mem_cons.mp hx with rfl | hx
    · exact small_fine hk h.1
    · rw [List.mem_singleton.mp hx]; exact small_fine hk h.2
theorem rad_fine {ss : List Stg} {rate : Option Int} {k : Nat} (hk : k ≤ 100) (h8 : ss.length ≤ 8) (hs : ∀ s ∈ ss, s.small k) (hr : ∀ r, rate = some r → Small k r) : Fine 30500 3 (radD ss rate) := by
  have h1 : Fine 15208 2 (.list (ss.map Stg.d)) := by
    refine (Fine.list (w := 1900) (k := 1) (l := ss.map Stg.d) fun x hx => ?_).mono (by rw [List.length_map]; omega) (Nat.le_refl _)
    obtain ⟨s, hs', rfl⟩ := List.mem_map.mp hx
    exact stg_fine hk (hs s hs')
  have h2 : Fine 15208 2 (rateD rate) := by
    cases rate with
    | none => exact Fine.none.mono (by decide) (by decide)
    | some r => exact (small_fine hk (hr r rfl)).mono (by decide) (by decide)
  refine (Fine.tuple (w := 15208) (k := 2) (l := [.list (ss.map Stg.d), rateD rate]) fun x hx => ?_).mono (Nat.le_of_ble_eq_true rfl) (Nat.le_refl _)
  rcases List.mem_cons.mp hx with rfl | hx
  · exact h1
  · rw [List.mem_singleton.mp hx]; exact h2
theorem lk_fine {l : Lk} {k : Nat} (hk : k ≤ 100) (h : l.small k) : Fine 1900 1 l.d := by
  obtain ⟨d, b⟩ := l
  have h1 := small_fine hk h.1
  cases b with
  | none =>
    refine (Fine.tuple (w := 600) (k := 0) (l := [.int d, .none, .none]) fun x hx => ?_).mono (Nat.le_of_ble_eq_true rfl) (by decide)
    rcases List.mem_cons.mp hx with rfl | hx
    · exact h1
    rcases List.mem_cons.mp hx with rfl | hx
    · exact Fine.none.mono (by decide) (by decide)
    · rw [List.mem_singleton.mp hx]; exact Fine.none.mono (by decide) (by decide)
  | some b =>
    obtain ⟨x1, x2⟩ := h.2 b rfl
    refine (Fine.tuple (w := 600) (k := 0) (l := [.int d, .int b.1, .int b.2]) fun x hx => ?_).mono (Nat.le_of_ble_eq_true rfl) (by decide)
    rcases List.mem_cons.mp hx with rfl | hx
    · exact h1
    rcases List.mem_cons.mp hx with rfl | hx
    · exact small_fine hk x1
    · rw [List.mem_singleton.mp hx]; exact small_fine hk x2
theorem lks_fine {ls : List Lk} {k : Nat} (hk : k ≤ 100) (h8 : ls.length ≤ 8) (hs : ∀ s ∈ ls, s.small k) : Fine 15208 2 (.list (ls.map Lk.d)) := by
  refine (Fine.list (w := 1900) (k := 1) (l := ls.map Lk.d) fun x hx => ?_).mono (by rw [List.length_map]; omega) (Nat.le_refl _)
  obtain ⟨s, hs', rfl⟩ := List.mem_map.mp hx
  exact lk_fine hk (hs s hs')
theorem setS_len30 {ss : List Stg} {r : Option Int} (h8 : ss.length ≤ 8) (hs : ∀ s ∈ ss, s.small 30) (hr : ∀ x, r = some x → Small 30 x) : (setS ss r).length ≤ 700 := by
  obtain ⟨q1, q2⟩ := setS_len (k := 30) (by decide) h8 hs hr
  have h1 := join_len (Str.ofString " ") (ss.map stgS ++ rateS r)
  have h2 := sum_le q1
  rw [one_len.2.2.2.2.2.1] at h1
  have h3 : (ss.map stgS ++ rateS r).length * (2 * 30 + 5) ≤ 9 * 65 := Nat.mul_le_mul q2 (by decide)
  unfold setS
  omega
theorem looksS_len30 {ls : List Lk} (h8 : ls.length ≤ 6) (hs : ∀ s ∈ ls, s.small 30) : (looksS ls).length ≤ 700 := by
  have sl : ∀ x ∈ ls.map lkS, x.length ≤ 96 := fun x hx => by
    obtain ⟨s, h, rfl⟩ := List.mem_map.mp hx
    exact lkS_len (k := 30) (by decide) (hs s h)
  have h1 := join_len (Str.ofString " ") (ls.map lkS)
  have h2 := sum_le sl
  rw [one_len.2.2.2.2.2.1] at h1
  have h3 : (ls.map lkS).length * 96 ≤ 6 * 96 := Nat.mul_le_mul (by rw [List.length_map]; exact h8) (by decide)
  rw [List.length_map] at *
  unfold looksS
  omega
theorem Pl.fine {x : Str} {n : Nat} (h : Pl x) (hn : x.length ≤ n) : Fine n 0 (.str x) :=
  Fine.str (List.all_eq_true.mpr fun c hc => decide_eq_true (Nat.lt_trans (h c hc) (by decide))) hn
theorem pair_fine {x y : PyData} {w k : Nat} (hx : Fine w k x) (hy : Fine w k y) : Fine (2 * (w + 1)) (k + 1) (.list [x, y]) := Fine.list (l := [x, y]) fun z hz => by
  rcases List.mem_cons.mp hz with rfl | hz
  · exact hx
  · rw [List.mem_singleton.mp hz]; exact hy
/-! ### a def that may raise, called by keywords -/
def HasKX (P : Program) (w : World) (K : PySem.W.Frag) (mg : Str → Option Value) (base : Heap) (k : Nat) (x : Str) (ks : List Str) (g : List Value → List Value) (gV : List V → List V) (sp : Sp) : Prop :=
  ∃ (f : Addr) (fd : FuncData) (ps : List Str), FnOk P w K mg base (L2N.CX P w) k f fd ps sp ∧ mg x = some (.ref f) ∧ PySem.W.keepIn K (.ref f) = true ∧ KBn K fd ps 0 ks (fun _ ws => g ws) (fun _ zs => gV zs)
theorem passN0 {X : Cx} : Passes (L2N.CX X.prog X.w) X E0 := fun pins σ H s e s' I c => takes0N e s' (L2N.XE.of_call I (fun _ _ _ h => h) c)
section
variable {X : Cx} {k n : Nat} {sp : Sp} {x : Str} {p pos : Pos} {kws : List Keyword} {tk : TA} {ks : List Str} {g : List Value → List Value} {gV : List V → List V}
theorem pe_kwX (h : HasKX X.prog X.w X.K X.mg X.base k x ks g gV sp) (hr : Room n X.A) (hg : Gl X x) (hkw : PK X kws tk) (hkn : k ≤ n := by decide)
    (hall : (backToKw pos (keywordEach kws X.env)).all (·.1.isSome) = true := by rfl) (hks : (backToKw pos (keywordEach kws X.env)).filterMap (·.1) = ks := by rfl) (hdb : (x == ("__debug__" : Str)) = false := by decide)
    (hpl : ((backTo pos (starEach [] X.env)).any (·.1) || (backToKw pos (keywordEach kws X.env)).any (·.1.isNone)) = false := by rfl) :
    PE X (.Call (.Name x p) [] kws pos) (tKw ks.length sp gV tk) := by
  obtain ⟨f, fd, ps, F, hm, hk, hb⟩ := h
  refine ⟨fun pins s σ H Q I h => ?_⟩
  refine wpAny_Call_Name_kw (ld_glob I hg hm ?_ hdb)
  refine PySem.W.callWith_KW0 (h₀ := X.base) I.ok.mod.kin hk hall ?_ hpl
  refine thn (hkw.run pos pins s σ H _ I h) fun ws s2 ⟨zs, H2, I2, rz, l2, q2⟩ => ⟨I2.kIn, ?_⟩
  rw [hks]
  exact run_fnN (us := []) (vs := []) (n := 0) F (hr.mono hkn) hb passN0 I2 .nil rz rfl l2 q2
variable {e : Expr} {es : List Expr} {t : TA}
/-- by position; it raises nothing here -/
theorem pe_hs0X (h : HasX X.prog X.w X.K X.mg X.base k x sp) (hr : Room n X.A) (hg : Gl X x) (ha : PA X (e :: es) t) (hkn : k ≤ n := by decide) (hdb : (x == ("__debug__" : Str)) = false := by decide)
    (he : starEach (e :: es) X.env = (false, eval e X.env) :: starEach es X.env := by rfl) (hpl : (backTo pos (starEach es X.env)).any (·.1) = false := by rfl) :
    PE X (.Call (.Name x p) (e :: es) [] pos) (tCall sp [] E0 t) := by
  obtain ⟨f, fd, ps, F, hm, hk, hb⟩ := h
  exact pe_call F (hr.mono hkn) hg hm hk hb .nil passN0 ha hdb he hpl
end
end Kx

set_option Elab.async false
set_option linter.all false
set_option maxRecDepth 100000
set_option maxHeartbeats 8000000

namespace Kx
open PySem PySem.Spec PyProof.Rows L2 HX TL
open Evl (Ex)
local macro_rules | `(tactic| walk_at "len") => `(tactic| first | assumption | exact le_line (by assumption) | exact le_line (by omega) | exact le_line (Nat.le_trans (cutS_length _ _ _) (by omega)) | (rw [sizeLine_eq]; omega))
local macro_rules | `(tactic| walk_at "side") => `(tactic| first | assumption | ((try dsimp only); first | assumption | decide +kernel | omega | exact ⟨by decide, by decide⟩ | (left; decide) | (left; omega) | (refine Or.inl ⟨?_, ?_⟩ <;> omega) | (refine Or.inr ⟨?_, ?_⟩ <;> omega)))
local macro_rules | `(tactic| walk_at "heap") => `(tactic| first | assumption | exact upd_same | exact Or.inl (by assumption) | exact Or.inl upd_same)
local macro_rules | `(tactic| walk_at "item") => `(tactic| first | exact rfl | exact atI_nat (j := 0) rfl | exact atI_nat (j := 1) rfl | exact atI_nat (j := 2) rfl | assumption)
local macro_rules | `(tactic| walk_at "rd") => `(tactic| repeat (first
  | ((with_reducible refine' go_var ?hv ?_); (case hv => exact rfl))
  | with_reducible refine' go_c ?_
  | with_reducible refine' go_op ?_
  | with_reducible refine' go_seq ?_
  | with_reducible refine' go_asg ?_
  | with_reducible refine' go_name ?_
  | with_reducible refine' go_cons ?_
  | with_reducible refine' go_nil ?_
  | with_reducible refine' go_cb ?_
  | with_reducible refine' go_call ?_
  | with_reducible refine' go_ifS ?_
  | with_reducible refine' go_test ?_
  | with_reducible refine' go_bl ?_
  | with_reducible refine' go_ret ?_
  | with_reducible refine' go_I0 ?_
  | ((with_reducible refine' go_I ?cc ?_); (case cc => walk_at "side"))
  | ((with_reducible refine' go_ixL ?hh ?hk ?_); (case hh => walk_at "heap"); (case hk => walk_at "item"))
  | ((with_reducible refine' go_ixT ?hh ?hk ?_); (case hh => walk_at "heap"); (case hk => walk_at "item"))
  | ((with_reducible refine' go_lenL ?hh ?_); (case hh => walk_at "heap"))
  | ((with_reducible refine' go_lenT ?hh ?_); (case hh => walk_at "heap"))
  | ((with_reducible refine' go_setL ?hh ?hk ?_); (case hh => walk_at "heap"); (case hk => walk_at "item"))
  | with_reducible refine' go_abs ?_
  | with_reducible refine' go_max ?_
  | with_reducible refine' go_min ?_
  | with_reducible refine' go_int ?_
  | with_reducible refine' go_intB ?_
  | (with_reducible refine' go_eq rfl ?_)
  | (with_reducible refine' go_ne rfl ?_)
  | with_reducible refine' go_isN ?_
  | with_reducible refine' go_notN ?_
  | with_reducible refine' go_if ?_
  | with_reducible refine' go_sub ?_
  | with_reducible refine' go_par ?_
  | with_reducible refine' go_sl ?_
  | with_reducible refine' go_part ?_
  | with_reducible refine' go_pint ?_
  | with_reducible refine' go_nopart ?_
  | ((with_reducible refine' go_lenL ?hh ?_); (case hh => walk_at "heap"))
  | ((with_reducible refine' go_lenT ?hh ?_); (case hh => walk_at "heap"))
  | ((with_reducible refine' go_lenS ?hh ?_); (case hh => assumption))
  | with_reducible refine' go_gcons ?_
  | with_reducible refine' go_gnil ?_
  | with_reducible refine' go_kw ?_
  | with_reducible refine' go_par2 ?_
  | with_reducible refine' go_next ?_
  | with_reducible refine' go_drop ?_
  | with_reducible refine' go_and ?_
  | with_reducible refine' go_or ?_
  | with_reducible refine' go_not ?_
  | with_reducible refine' go_B ?_
  | with_reducible refine' go_andV ?_
  | with_reducible refine' go_orV ?_
  | with_reducible refine' go_notV ?_
  | with_reducible refine' go_chain ?_
  | with_reducible refine' go_un ?_
  | with_reducible refine' go_U ?_
  | with_reducible refine' go_bm ?_
  | with_reducible refine' go_tup ?_
  | with_reducible refine' go_lst ?_
  | with_reducible refine' go_forR1 ?_
  | with_reducible refine' go_forR2 ?_
  | with_reducible refine' go_forL ?_
  | with_reducible refine' go_forT ?_
  | with_reducible refine' go_forE ?_
  | with_reducible refine' go_lcR1 ?_
  | with_reducible refine' go_lcL ?_
  | with_reducible refine' go_lcT ?_
  | ((with_reducible refine' go_tyL ?hh ?_); (case hh => walk_at "heap"))
  | ((with_reducible refine' go_new ?hz ?_); (case hz => exact Nat.le_of_ble_eq_true rfl))
  | with_reducible refine' go_par3 ?_
  | with_reducible refine' go_three ?_
  | with_reducible refine' go_m1 ?_
  | with_reducible refine' go_isS ?_
  | with_reducible refine' go_rSw ?_
  | with_reducible refine' go_rFnd ?_
  | ((with_reducible refine' go_rPrt (by decide +kernel) ?hz ?_); (case hz => walk_at "len"))
  | ((with_reducible refine' go_rSpl (by decide +kernel) ?hz ?_); (case hz => walk_at "len"))
  | ((with_reducible refine' go_rLenS ?hz ?_); (case hz => walk_at "len"))
  | ((with_reducible refine' go_slS ?hz ?_); (case hz => walk_at "len"))
  | with_reducible refine' go_sgn ?_
  | with_reducible refine' go_nsg ?_
  | with_reducible refine' go_lcS ?_
  | (with_reducible refine' ⟨_, rfl, ?_⟩)
  ))
--MACEND
theorem jx_hid {D : Addr} {H G : Hp} (e : Jx [D] H G) (h : H D = none) : Ex H (hid [D] G) := fun b o q => by
  have hb : b ≠ D := fun z => by rw [z, h] at q; cases q
  exact e b o (by rw [hid_ne (nin1 hb)]; exact q)
instance (k : Nat) (i : Int) : Decidable (Small k i) := inferInstanceAs (Decidable (i.natAbs < 10 ^ k))
instance : (s : Stg) → Decidable s.fit
  | .mix lo => inferInstanceAs (Decidable (0 ≤ lo ∧ Small 30 lo))
  | .dial a => inferInstanceAs (Decidable (Small 30 a))
  | .pass a b => inferInstanceAs (Decidable (0 ≤ a ∧ a ≤ b ∧ Small 30 a ∧ Small 30 b))
def bandOk : Option (Int × Int) → Prop
  | none => True
  | some b => 0 ≤ b.1 ∧ b.1 ≤ b.2 ∧ Small 30 b.1 ∧ Small 30 b.2
instance : (b : Option (Int × Int)) → Decidable (bandOk b)
  | none => inferInstanceAs (Decidable True)
  | some b => inferInstanceAs (Decidable (0 ≤ b.1 ∧ b.1 ≤ b.2 ∧ Small 30 b.1 ∧ Small 30 b.2))
def rateOk : Option Int → Prop
  | none => True
  | some x => 2 ≤ x ∧ Small 30 x
instance : (r : Option Int) → Decidable (rateOk r)
  | none => inferInstanceAs (Decidable True)
  | some x => inferInstanceAs (Decidable (2 ≤ x ∧ Small 30 x))
def GoodR (ss : List Stg) (r : Option Int) : Prop := ss.length ≠ 0 ∧ ss.length ≤ 8 ∧ dials ss ≤ 1 ∧ (∀ s ∈ ss, s.fit) ∧ rateOk r
instance (ss : List Stg) (r : Option Int) : Decidable (GoodR ss r) := inferInstanceAs (Decidable (_ ∧ _ ∧ _ ∧ _ ∧ _))
def GoodL (ls : List Lk) : Prop := ls.length ≠ 0 ∧ ls.length ≤ 6 ∧ ∀ l ∈ ls, Small 30 l.dial ∧ bandOk l.band
instance (ls : List Lk) : Decidable (GoodL ls) := inferInstanceAs (Decidable (_ ∧ _ ∧ _))
/-- a receiver with its text -/
inductive PairR (H : Hp) : V → Prop
  | mk {a p l : Addr} {t : Str} {ss : List Stg} {r : Option Int} {vs : List V} : H a = some (.tup [.ref p, .str t]) → t = setS ss r → H p = some (.tup [.ref l, optV r]) → H l = some (.lst vs) → Tps H vs (ss.map Stg.vals) → GoodR ss r → PairR H (.ref a)
theorem PairR.ex {H G : Hp} {v : V} (e : Ex H G) : PairR H v → PairR G v
  | .mk h1 h2 h3 h4 h5 h6 => .mk (e _ _ h1) h2 (e _ _ h3) (e _ _ h4) (h5.ex e) h6
theorem tup_hid {H : Hp} {l a : Addr} {xs ys : List V} (hl : H l = some (.lst xs)) (h : H a = some (.tup ys)) : hid [l] H a = some (.tup ys) := by
  rw [hid_ne (nin1 fun z => by rw [z, hl] at h; cases h)]; exact h
theorem tps_hid {H : Hp} {l : Addr} {xs : List V} (hl : H l = some (.lst xs)) : ∀ {vs : List V} {ts : List (List V)}, Tps H vs ts → Tps (hid [l] H) vs ts
  | _, _, .nil => .nil
  | _, _, .cons h t => .cons (tup_hid hl h) (tps_hid hl t)
theorem PairR.hid {H : Hp} {m : Addr} {xs : List V} (hl : H m = some (.lst xs)) {a p l : Addr} (hne : l ≠ m) {t : Str} {ss : List Stg} {r : Option Int} {vs : List V} (h1 : H a = some (.tup [.ref p, .str t])) (h2 : t = setS ss r)
    (h3 : H p = some (.tup [.ref l, optV r])) (h4 : H l = some (.lst vs)) (h5 : Tps H vs (ss.map Stg.vals)) (h6 : GoodR ss r) : PairR (HX.hid [m] H) (.ref a) :=
  .mk (tup_hid hl h1) h2 (tup_hid hl h3) (by rw [hid_ne (nin1 hne)]; exact h4) (tps_hid hl h5) h6
/-- looks with their text -/
inductive PairL (H : Hp) : V → Prop
  | mk {a l : Addr} {t : Str} {ls : List Lk} {vs : List V} : H a = some (.tup [.ref l, .str t]) → t = looksS ls → H l = some (.lst vs) → Tps H vs (ls.map Lk.vals) → GoodL ls → PairL H (.ref a)
theorem PairL.ex {H G : Hp} {v : V} (e : Ex H G) : PairL H v → PairL G v
  | .mk h1 h2 h4 h5 h6 => .mk (e _ _ h1) h2 (e _ _ h4) (h5.ex e) h6
theorem PairL.hid {H : Hp} {m : Addr} {xs : List V} (hl : H m = some (.lst xs)) {a l : Addr} (hne : l ≠ m) {t : Str} {ls : List Lk} {vs : List V} (h1 : H a = some (.tup [.ref l, .str t])) (h2 : t = looksS ls)
    (h4 : H l = some (.lst vs)) (h5 : Tps H vs (ls.map Lk.vals)) (h6 : GoodL ls) : PairL (HX.hid [m] H) (.ref a) :=
  .mk (tup_hid hl h1) h2 (by rw [hid_ne (nin1 hne)]; exact h4) (tps_hid hl h5) h6
def spRadios : Sp := fun vs H Q _ => vs = [] ∧ ∀ (l : Addr) (xs : List V) (H' : Hp), Ex H H' → H' l = some (.lst xs) → (∀ v ∈ xs, PairR H' v) → Q (.ref l) H'
def spAllL : Sp := fun vs H Q _ => vs = [] ∧ ∀ (l : Addr) (xs : List V) (H' : Hp), Ex H H' → H' l = some (.lst xs) → (∀ v ∈ xs, PairL H' v) → Q (.ref l) H'
section
variable {P : Program} {w : World} {K : PySem.W.Frag} {mg : Str → Option Value} {base : Heap}
abbrev s__law_radios : Stmt := top 32
theorem sc__law_radios : FnScope ["found", "parts"] [] (defScope s__law_radios) := ⟨rfl, rfl, rfl, by decide +kernel, rfl, by decide +kernel, by decide +kernel⟩
theorem ok_law_radios {f : Addr} {fd : FuncData} (F : Fun K "_law_radios" "_law_radios" s__law_radios f fd) : FnOk P w K mg base CX0 1 f fd [] spRadios := by
  refine F.ok sc__law_radios (fun vs H Q E h => ?_) (fun cdv A outer s H vs Q E hr h => ?_)
  · obtain ⟨rfl, _⟩ := h
    rfl
  · obtain ⟨rfl, k⟩ := h
    refine ⟨_, (pss_cons (ps_set (i := 0) sc__law_radios.nd rfl (Or.inl rfl) (pe_lst (pa_cons (pe_tup (pa_cons (pe_tup (pa_cons (pe_lst (pa_cons (pe_tup (pa_cons pe_str (pa_cons pe_int pa_nil))) pa_nil)) (pa_cons pe_non pa_nil))) (pa_cons pe_str pa_nil))) (pa_cons (pe_tup (pa_cons (pe_tup (pa_cons (pe_lst (pa_cons (pe_tup (pa_cons pe_str (pa_cons pe_int pa_nil))) pa_nil)) (pa_cons pe_int pa_nil))) (pa_cons pe_str pa_nil))) (pa_cons (pe_tup (pa_cons (pe_tup (pa_cons (pe_lst (pa_cons (pe_tup (pa_cons pe_str (pa_cons pe_int (pa_cons pe_int pa_nil)))) pa_nil)) (pa_cons pe_non pa_nil))) (pa_cons pe_str pa_nil))) pa_nil)))))
  (pss_cons (ps_expr (pe_bm PySem.F.plainAttrs_list PySem.F.slot_list_append PySem.F.type_list_append mt_append (pv 0) (pa_cons (pe_tup (pa_cons (pe_tup (pa_cons (pe_lst (pa_cons (pe_tup (pa_cons pe_str (pa_cons pe_int pa_nil))) (pa_cons (pe_tup (pa_cons pe_str (pa_cons (pe_un un_neg pe_int) pa_nil))) (pa_cons (pe_tup (pa_cons pe_str (pa_cons pe_int (pa_cons pe_int pa_nil)))) pa_nil)))) (pa_cons pe_int pa_nil))) (pa_cons pe_str pa_nil))) pa_nil)))
  (pss_cons (ps_set (i := 1) sc__law_radios.nd rfl (Or.inl rfl) (pe_lst (pa_cons (pe_tup (pa_cons pe_str (pa_cons (pe_un un_neg pe_int) pa_nil))) (pa_cons (pe_tup (pa_cons pe_str (pa_cons (pe_op op_powW pe_int pe_int) pa_nil))) (pa_cons (pe_tup (pa_cons pe_str (pa_cons pe_int pa_nil))) (pa_cons (pe_tup (pa_cons pe_str (pa_cons pe_int pa_nil))) pa_nil))))))
  (pss_cons (ps_expr (pe_bm PySem.F.plainAttrs_list PySem.F.slot_list_append PySem.F.type_list_append mt_append (pv 0) (pa_cons (pe_tup (pa_cons (pe_tup (pa_cons (pv 1) (pa_cons pe_int pa_nil))) (pa_cons (pe_op op_addS (pe_op op_addS pe_str (pe_op op_mulS pe_str pe_int)) pe_str) pa_nil))) pa_nil)))
  (pss_cons (ps_expr (pe_bm PySem.F.plainAttrs_list PySem.F.slot_list_append PySem.F.type_list_append mt_append (pv 0) (pa_cons (pe_tup (pa_cons (pe_tup (pa_cons (pe_lst (pa_cons (pe_tup (pa_cons pe_str (pa_cons pe_int (pa_cons pe_int pa_nil)))) (pa_cons (pe_tup (pa_cons pe_str (pa_cons pe_int (pa_cons pe_int pa_nil)))) pa_nil))) (pa_cons pe_int pa_nil))) (pa_cons pe_str pa_nil))) pa_nil)))
  (pss_cons (ps_expr (pe_bm PySem.F.plainAttrs_list PySem.F.slot_list_append PySem.F.type_list_append mt_append (pv 0) (pa_cons (pe_tup (pa_cons (pe_tup (pa_cons (pe_op op_cat (pe_op op_rep (pe_lst (pa_cons (pe_tup (pa_cons pe_str (pa_cons pe_int pa_nil))) pa_nil)) pe_int) (pe_lst (pa_cons (pe_tup (pa_cons pe_str (pa_cons pe_int pa_nil))) pa_nil))) (pa_cons pe_non pa_nil))) (pa_cons pe_str pa_nil))) pa_nil)))
  (pss_cons (ps_expr (pe_bm PySem.F.plainAttrs_list PySem.F.slot_list_append PySem.F.type_list_append mt_append (pv 0) (pa_cons (pe_tup (pa_cons (pe_tup (pa_cons (pe_op op_rep (pe_lst (pa_cons (pe_tup (pa_cons pe_str (pa_cons pe_int pa_nil))) pa_nil)) pe_int) (pa_cons pe_int pa_nil))) (pa_cons pe_str pa_nil))) pa_nil)))
  (pss_one (ps_ret (pv 0)))))))))), ?_⟩
    walk_at "rd"
    intro t1 n1
    have e1 := Ex.new (o := HO.tup [V.str (Str.ofString "mix"), V.int 0]) n1
    have h1 := upd_same (H := H) (a := t1) (o := HO.tup [V.str (Str.ofString "mix"), V.int 0])
    generalize upd H t1 _ = G1 at *
    walk_at "rd"
    intro l2 n2
    have e2 := Ex.new (o := HO.lst [V.ref t1]) n2
    have h2 := upd_same (H := G1) (a := l2) (o := HO.lst [V.ref t1])
    generalize upd G1 l2 _ = G2 at *
    walk_at "rd"
    intro p3 n3
    have e3 := Ex.new (o := HO.tup [V.ref l2, V.non]) n3
    have h3 := upd_same (H := G2) (a := p3) (o := HO.tup [V.ref l2, V.non])
    generalize upd G2 p3 _ = G3 at *
    walk_at "rd"
    intro a4 n4
    have e4 := Ex.new (o := HO.tup [V.ref p3, V.str (Str.ofString "m0")]) n4
    have h4 := upd_same (H := G3) (a := a4) (o := HO.tup [V.ref p3, V.str (Str.ofString "m0")])
    generalize upd G3 a4 _ = G4 at *
    have P1 := PairR.mk (ss := [Stg.mix 0]) (r := none) h4 (by decide +kernel) (e4 _ _ h3) ((e3.trans e4) _ _ h2) (.cons (((e2.trans e3).trans e4) _ _ h1) (.nil)) (by decide +kernel)
    walk_at "rd"
    intro t5 n5
    have e5 := Ex.new (o := HO.tup [V.str (Str.ofString "dial"), V.int 0]) n5
    have h5 := upd_same (H := G4) (a := t5) (o := HO.tup [V.str (Str.ofString "dial"), V.int 0])
    generalize upd G4 t5 _ = G5 at *
    walk_at "rd"
    intro l6 n6
    have e6 := Ex.new (o := HO.lst [V.ref t5]) n6
    have h6 := upd_same (H := G5) (a := l6) (o := HO.lst [V.ref t5])
    generalize upd G5 l6 _ = G6 at *
    walk_at "rd"
    intro p7 n7
    have e7 := Ex.new (o := HO.tup [V.ref l6, V.int 2]) n7
    have h7 := upd_same (H := G6) (a := p7) (o := HO.tup [V.ref l6, V.int 2])
    generalize upd G6 p7 _ = G7 at *
    walk_at "rd"
    intro a8 n8
    have e8 := Ex.new (o := HO.tup [V.ref p7, V.str (Str.ofString "d0 /2")]) n8
    have h8 := upd_same (H := G7) (a := a8) (o := HO.tup [V.ref p7, V.str (Str.ofString "d0 /2")])
    generalize upd G7 a8 _ = G8 at *
    have P2 := PairR.mk (ss := [Stg.dial 0]) (r := some 2) h8 (by decide +kernel) (e8 _ _ h7) ((e7.trans e8) _ _ h6) (.cons (((e6.trans e7).trans e8) _ _ h5) (.nil)) (by decide +kernel)
    walk_at "rd"
    intro t9 n9
    have e9 := Ex.new (o := HO.tup [V.str (Str.ofString "pass"), V.int 0, V.int 0]) n9
    have h9 := upd_same (H := G8) (a := t9) (o := HO.tup [V.str (Str.ofString "pass"), V.int 0, V.int 0])
    generalize upd G8 t9 _ = G9 at *
    walk_at "rd"
    intro l10 n10
    have e10 := Ex.new (o := HO.lst [V.ref t9]) n10
    have h10 := upd_same (H := G9) (a := l10) (o := HO.lst [V.ref t9])
    generalize upd G9 l10 _ = G10 at *
    walk_at "rd"
    intro p11 n11
    have e11 := Ex.new (o := HO.tup [V.ref l10, V.non]) n11
    have h11 := upd_same (H := G10) (a := p11) (o := HO.tup [V.ref l10, V.non])
    generalize upd G10 p11 _ = G11 at *
    walk_at "rd"
    intro a12 n12
    have e12 := Ex.new (o := HO.tup [V.ref p11, V.str (Str.ofString "p0..0")]) n12
    have h12 := upd_same (H := G11) (a := a12) (o := HO.tup [V.ref p11, V.str (Str.ofString "p0..0")])
    generalize upd G11 a12 _ = G12 at *
    have P3 := PairR.mk (ss := [Stg.pass 0 0]) (r := none) h12 (by decide +kernel) (e12 _ _ h11) ((e11.trans e12) _ _ h10) (.cons (((e10.trans e11).trans e12) _ _ h9) (.nil)) (by decide +kernel)
    walk_at "rd"
    intro l n13
    have e13 := Ex.new (o := HO.lst [V.ref a4, V.ref a8, V.ref a12]) n13
    have hl := upd_same (H := G12) (a := l) (o := HO.lst [V.ref a4, V.ref a8, V.ref a12])
    have y := jx_hid (Jx.of (S := [l]) e13) n13
    generalize upd G12 l _ = G13 at *
    have P1 := P1.ex ((((((((e5.trans e6).trans e7).trans e8).trans e9).trans e10).trans e11).trans e12).trans y)
    have P2 := P2.ex ((((e9.trans e10).trans e11).trans e12).trans y)
    have P3 := P3.ex (y)
    have z0 : Jx [l] G13 G13 := fun b o q => q
    walk_at "rd"
    intro t14 n14
    have e14 := Ex.new (o := HO.tup [V.str (Str.ofString "mix"), V.int 5]) n14
    have h14 := upd_same (H := G13) (a := t14) (o := HO.tup [V.str (Str.ofString "mix"), V.int 5])
    have x14 := Jx.of (S := [l]) e14
    generalize upd G13 t14 _ = G14 at *
    walk_at "rd"
    intro t15 n15
    have e15 := Ex.new (o := HO.tup [V.str (Str.ofString "dial"), V.int (-3)]) n15
    have h15 := upd_same (H := G14) (a := t15) (o := HO.tup [V.str (Str.ofString "dial"), V.int (-3)])
    have x15 := Jx.of (S := [l]) e15
    generalize upd G14 t15 _ = G15 at *
    walk_at "rd"
    intro t16 n16
    have e16 := Ex.new (o := HO.tup [V.str (Str.ofString "pass"), V.int 2, V.int 9]) n16
    have h16 := upd_same (H := G15) (a := t16) (o := HO.tup [V.str (Str.ofString "pass"), V.int 2, V.int 9])
    have x16 := Jx.of (S := [l]) e16
    generalize upd G15 t16 _ = G16 at *
    walk_at "rd"
    intro l17 n17
    have e17 := Ex.new (o := HO.lst [V.ref t14, V.ref t15, V.ref t16]) n17
    have h17 := upd_same (H := G16) (a := l17) (o := HO.lst [V.ref t14, V.ref t15, V.ref t16])
    have x17 := Jx.of (S := [l]) e17
    generalize upd G16 l17 _ = G17 at *
    walk_at "rd"
    intro p18 n18
    have e18 := Ex.new (o := HO.tup [V.ref l17, V.int 4]) n18
    have h18 := upd_same (H := G17) (a := p18) (o := HO.tup [V.ref l17, V.int 4])
    have x18 := Jx.of (S := [l]) e18
    generalize upd G17 p18 _ = G18 at *
    walk_at "rd"
    intro a19 n19
    have e19 := Ex.new (o := HO.tup [V.ref p18, V.str (Str.ofString "m5 d-3 p2..9 /4")]) n19
    have h19 := upd_same (H := G18) (a := a19) (o := HO.tup [V.ref p18, V.str (Str.ofString "m5 d-3 p2..9 /4")])
    have x19 := Jx.of (S := [l]) e19
    generalize upd G18 a19 _ = G19 at *
    have q19 : l17 ≠ l := fresh_ne (((e14.trans e15).trans e16) _ _ hl) n17
    have hl19 := (((((e14.trans e15).trans e16).trans e17).trans e18).trans e19) _ _ hl
    have P4 := (PairR.hid hl19 q19 (ss := [Stg.mix 5, .dial (-3), .pass 2 9]) (r := some 4) h19 (by decide +kernel) (e19 _ _ h18) ((e18.trans e19) _ _ h17) (.cons (((((e15.trans e16).trans e17).trans e18).trans e19) _ _ h14) (.cons ((((e16.trans e17).trans e18).trans e19) _ _ h15) (.cons (((e17.trans e18).trans e19) _ _ h16) (.nil)))) (by decide +kernel))
    have P1 := P1.ex (((((x14.tr x15).tr x16).tr x17).tr x18).tr x19)
    have P2 := P2.ex (((((x14.tr x15).tr x16).tr x17).tr x18).tr x19)
    have P3 := P3.ex (((((x14.tr x15).tr x16).tr x17).tr x18).tr x19)
    walk_at "rd"
    refine go_app hl19 (by show 3 < sizeLine; rw [sizeLine_eq]; decide) ?_
    clear hl
    have hl := upd_same (H := G19) (a := l) (o := HO.lst [V.ref a4, V.ref a8, V.ref a12, V.ref a19])
    have x20 : Jx [l] G19 (upd G19 l (HO.lst [V.ref a4, V.ref a8, V.ref a12, V.ref a19])) := Jx.upd (by simp)
    have z4 := (z0.tr (((((x14.tr x15).tr x16).tr x17).tr x18).tr x19)).tr x20
    have P1 := P1.ex x20
    have P2 := P2.ex x20
    have P3 := P3.ex x20
    have P4 := P4.ex x20
    simp only [List.cons_append, List.nil_append]
    generalize upd G19 l (HO.lst [V.ref a4, V.ref a8, V.ref a12, V.ref a19]) = G20 at *
    walk_at "rd"
    intro t21 n21
    have e21 := Ex.new (o := HO.tup [V.str (Str.ofString "dial"), V.int (-1)]) n21
    have h21 := upd_same (H := G20) (a := t21) (o := HO.tup [V.str (Str.ofString "dial"), V.int (-1)])
    have x21 := Jx.of (S := [l]) e21
    generalize upd G20 t21 _ = G21 at *
    walk_at "rd"
    intro t22 n22
    have e22 := Ex.new (o := HO.tup [V.str (Str.ofString "mix"), V.int (10 ^ Int.toNat 29)]) n22
    have h22 := upd_same (H := G21) (a := t22) (o := HO.tup [V.str (Str.ofString "mix"), V.int (10 ^ Int.toNat 29)])
    have x22 := Jx.of (S := [l]) e22
    generalize upd G21 t22 _ = G22 at *
    walk_at "rd"
    intro t23 n23
    have e23 := Ex.new (o := HO.tup [V.str (Str.ofString "mix"), V.int 7]) n23
    have h23 := upd_same (H := G22) (a := t23) (o := HO.tup [V.str (Str.ofString "mix"), V.int 7])
    have x23 := Jx.of (S := [l]) e23
    generalize upd G22 t23 _ = G23 at *
    walk_at "rd"
    intro t24 n24
    have e24 := Ex.new (o := HO.tup [V.str (Str.ofString "mix"), V.int 7]) n24
    have h24 := upd_same (H := G23) (a := t24) (o := HO.tup [V.str (Str.ofString "mix"), V.int 7])
    have x24 := Jx.of (S := [l]) e24
    generalize upd G23 t24 _ = G24 at *
    walk_at "rd"
    intro l25 n25
    have e25 := Ex.new (o := HO.lst [V.ref t21, V.ref t22, V.ref t23, V.ref t24]) n25
    have h25 := upd_same (H := G24) (a := l25) (o := HO.lst [V.ref t21, V.ref t22, V.ref t23, V.ref t24])
    have x25 := Jx.of (S := [l]) e25
    generalize upd G24 l25 _ = G25 at *
    have hlp := ((((e21.trans e22).trans e23).trans e24).trans e25) _ _ hl
    walk_at "rd"
    intro p26 n26
    have e26 := Ex.new (o := HO.tup [V.ref l25, V.int 10]) n26
    have h26 := upd_same (H := G25) (a := p26) (o := HO.tup [V.ref l25, V.int 10])
    have x26 := Jx.of (S := [l]) e26
    generalize upd G25 p26 _ = G26 at *
    walk_at "rd"
    refine go_mulS (by unfold PySem.MulOk; decide +kernel) ?_
    walk_at "rd"
    refine go_rAddS (by decide +kernel) ?_
    walk_at "rd"
    refine go_rAddS (by decide +kernel) ?_
    walk_at "rd"
    intro a27 n27
    have e27 := Ex.new (o := HO.tup [V.ref p26, V.str (Str.ofString "d-1 m1" ++ Txt.mul (Str.ofString "0") 29 ++ Str.ofString " m7 m7 /10")]) n27
    have h27 := upd_same (H := G26) (a := a27) (o := HO.tup [V.ref p26, V.str (Str.ofString "d-1 m1" ++ Txt.mul (Str.ofString "0") 29 ++ Str.ofString " m7 m7 /10")])
    have x27 := Jx.of (S := [l]) e27
    generalize upd G26 a27 _ = G27 at *
    have q27 : l25 ≠ l := fresh_ne ((((e21.trans e22).trans e23).trans e24) _ _ hl) n25
    have hl27 := ((((((e21.trans e22).trans e23).trans e24).trans e25).trans e26).trans e27) _ _ hl
    have P5 := (PairR.hid hl27 q27 (ss := [Stg.dial (-1), .mix (10 ^ Int.toNat 29), .mix 7, .mix 7]) (r := some 10) h27 (by decide +kernel) (e27 _ _ h26) ((e26.trans e27) _ _ h25) (.cons ((((((e22.trans e23).trans e24).trans e25).trans e26).trans e27) _ _ h21) (.cons (((((e23.trans e24).trans e25).trans e26).trans e27) _ _ h22) (.cons ((((e24.trans e25).trans e26).trans e27) _ _ h23) (.cons (((e25.trans e26).trans e27) _ _ h24) (.nil))))) (by decide +kernel))
    have P1 := P1.ex ((((((x21.tr x22).tr x23).tr x24).tr x25).tr x26).tr x27)
    have P2 := P2.ex ((((((x21.tr x22).tr x23).tr x24).tr x25).tr x26).tr x27)
    have P3 := P3.ex ((((((x21.tr x22).tr x23).tr x24).tr x25).tr x26).tr x27)
    have P4 := P4.ex ((((((x21.tr x22).tr x23).tr x24).tr x25).tr x26).tr x27)
    walk_at "rd"
    refine go_app hl27 (by show 4 < sizeLine; rw [sizeLine_eq]; decide) ?_
    clear hl
    have hl := upd_same (H := G27) (a := l) (o := HO.lst [V.ref a4, V.ref a8, V.ref a12, V.ref a19, V.ref a27])
    have x28 : Jx [l] G27 (upd G27 l (HO.lst [V.ref a4, V.ref a8, V.ref a12, V.ref a19, V.ref a27])) := Jx.upd (by simp)
    have z5 := (z4.tr ((((((x21.tr x22).tr x23).tr x24).tr x25).tr x26).tr x27)).tr x28
    have P1 := P1.ex x28
    have P2 := P2.ex x28
    have P3 := P3.ex x28
    have P4 := P4.ex x28
    have P5 := P5.ex x28
    simp only [List.cons_append, List.nil_append]
    generalize upd G27 l (HO.lst [V.ref a4, V.ref a8, V.ref a12, V.ref a19, V.ref a27]) = G28 at *
    walk_at "rd"
    intro t29 n29
    have e29 := Ex.new (o := HO.tup [V.str (Str.ofString "pass"), V.int 10, V.int 200]) n29
    have h29 := upd_same (H := G28) (a := t29) (o := HO.tup [V.str (Str.ofString "pass"), V.int 10, V.int 200])
    have x29 := Jx.of (S := [l]) e29
    generalize upd G28 t29 _ = G29 at *
    walk_at "rd"
    intro t30 n30
    have e30 := Ex.new (o := HO.tup [V.str (Str.ofString "pass"), V.int 9, V.int 9]) n30
    have h30 := upd_same (H := G29) (a := t30) (o := HO.tup [V.str (Str.ofString "pass"), V.int 9, V.int 9])
    have x30 := Jx.of (S := [l]) e30
    generalize upd G29 t30 _ = G30 at *
    walk_at "rd"
    intro l31 n31
    have e31 := Ex.new (o := HO.lst [V.ref t29, V.ref t30]) n31
    have h31 := upd_same (H := G30) (a := l31) (o := HO.lst [V.ref t29, V.ref t30])
    have x31 := Jx.of (S := [l]) e31
    generalize upd G30 l31 _ = G31 at *
    walk_at "rd"
    intro p32 n32
    have e32 := Ex.new (o := HO.tup [V.ref l31, V.int 999]) n32
    have h32 := upd_same (H := G31) (a := p32) (o := HO.tup [V.ref l31, V.int 999])
    have x32 := Jx.of (S := [l]) e32
    generalize upd G31 p32 _ = G32 at *
    walk_at "rd"
    intro a33 n33
    have e33 := Ex.new (o := HO.tup [V.ref p32, V.str (Str.ofString "p10..200 p9..9 /999")]) n33
    have h33 := upd_same (H := G32) (a := a33) (o := HO.tup [V.ref p32, V.str (Str.ofString "p10..200 p9..9 /999")])
    have x33 := Jx.of (S := [l]) e33
    generalize upd G32 a33 _ = G33 at *
    have q33 : l31 ≠ l := fresh_ne ((e29.trans e30) _ _ hl) n31
    have hl33 := ((((e29.trans e30).trans e31).trans e32).trans e33) _ _ hl
    have P6 := (PairR.hid hl33 q33 (ss := [Stg.pass 10 200, .pass 9 9]) (r := some 999) h33 (by decide +kernel) (e33 _ _ h32) ((e32.trans e33) _ _ h31) (.cons ((((e30.trans e31).trans e32).trans e33) _ _ h29) (.cons (((e31.trans e32).trans e33) _ _ h30) (.nil))) (by decide +kernel))
    have P1 := P1.ex ((((x29.tr x30).tr x31).tr x32).tr x33)
    have P2 := P2.ex ((((x29.tr x30).tr x31).tr x32).tr x33)
    have P3 := P3.ex ((((x29.tr x30).tr x31).tr x32).tr x33)
    have P4 := P4.ex ((((x29.tr x30).tr x31).tr x32).tr x33)
    have P5 := P5.ex ((((x29.tr x30).tr x31).tr x32).tr x33)
    walk_at "rd"
    refine go_app hl33 (by show 5 < sizeLine; rw [sizeLine_eq]; decide) ?_
    clear hl
    have hl := upd_same (H := G33) (a := l) (o := HO.lst [V.ref a4, V.ref a8, V.ref a12, V.ref a19, V.ref a27, V.ref a33])
    have x34 : Jx [l] G33 (upd G33 l (HO.lst [V.ref a4, V.ref a8, V.ref a12, V.ref a19, V.ref a27, V.ref a33])) := Jx.upd (by simp)
    have z6 := (z5.tr ((((x29.tr x30).tr x31).tr x32).tr x33)).tr x34
    have P1 := P1.ex x34
    have P2 := P2.ex x34
    have P3 := P3.ex x34
    have P4 := P4.ex x34
    have P5 := P5.ex x34
    have P6 := P6.ex x34
    simp only [List.cons_append, List.nil_append]
    generalize upd G33 l (HO.lst [V.ref a4, V.ref a8, V.ref a12, V.ref a19, V.ref a27, V.ref a33]) = G34 at *
    walk_at "rd"
    intro t35 n35
    have e35 := Ex.new (o := HO.tup [V.str (Str.ofString "mix"), V.int 1]) n35
    have h35 := upd_same (H := G34) (a := t35) (o := HO.tup [V.str (Str.ofString "mix"), V.int 1])
    have x35 := Jx.of (S := [l]) e35
    generalize upd G34 t35 _ = G35 at *
    walk_at "rd"
    intro l36 n36
    have e36 := Ex.new (o := HO.lst [V.ref t35]) n36
    have h36 := upd_same (H := G35) (a := l36) (o := HO.lst [V.ref t35])
    have x36 := Jx.of (S := [l]) e36
    generalize upd G35 l36 _ = G36 at *
    walk_at "rd"
    refine go_rep (xs := [V.ref t35]) h36 (by decide) (by show 7 ≤ sizeLine; rw [sizeLine_eq]; decide) ?_
    intro l37 n37
    have e37 := Ex.new (o := HO.lst (List.replicate (Int.toNat 7) [V.ref t35]).flatten) n37
    have h37 := upd_same (H := G36) (a := l37) (o := HO.lst (List.replicate (Int.toNat 7) [V.ref t35]).flatten)
    have x37 := Jx.of (S := [l]) e37
    generalize upd G36 l37 _ = G37 at *
    walk_at "rd"
    intro t38 n38
    have e38 := Ex.new (o := HO.tup [V.str (Str.ofString "dial"), V.int 12]) n38
    have h38 := upd_same (H := G37) (a := t38) (o := HO.tup [V.str (Str.ofString "dial"), V.int 12])
    have x38 := Jx.of (S := [l]) e38
    generalize upd G37 t38 _ = G38 at *
    walk_at "rd"
    intro l39 n39
    have e39 := Ex.new (o := HO.lst [V.ref t38]) n39
    have h39 := upd_same (H := G38) (a := l39) (o := HO.lst [V.ref t38])
    have x39 := Jx.of (S := [l]) e39
    generalize upd G38 l39 _ = G39 at *
    refine go_cat ((e38.trans e39) _ _ h37) h39 (by show 8 ≤ sizeLine; rw [sizeLine_eq]; decide) ?_
    intro l40 n40
    have e40 := Ex.new (o := HO.lst ((List.replicate (Int.toNat 7) [V.ref t35]).flatten ++ [V.ref t38])) n40
    have h40 := upd_same (H := G39) (a := l40) (o := HO.lst ((List.replicate (Int.toNat 7) [V.ref t35]).flatten ++ [V.ref t38]))
    have x40 := Jx.of (S := [l]) e40
    generalize upd G39 l40 _ = G40 at *
    walk_at "rd"
    intro p41 n41
    have e41 := Ex.new (o := HO.tup [V.ref l40, V.non]) n41
    have h41 := upd_same (H := G40) (a := p41) (o := HO.tup [V.ref l40, V.non])
    have x41 := Jx.of (S := [l]) e41
    generalize upd G40 p41 _ = G41 at *
    walk_at "rd"
    intro a42 n42
    have e42 := Ex.new (o := HO.tup [V.ref p41, V.str (Str.ofString "m1 m1 m1 m1 m1 m1 m1 d12")]) n42
    have h42 := upd_same (H := G41) (a := a42) (o := HO.tup [V.ref p41, V.str (Str.ofString "m1 m1 m1 m1 m1 m1 m1 d12")])
    have x42 := Jx.of (S := [l]) e42
    generalize upd G41 a42 _ = G42 at *
    have q42 : l40 ≠ l := fresh_ne (((((e35.trans e36).trans e37).trans e38).trans e39) _ _ hl) n40
    have hl42 := (((((((e35.trans e36).trans e37).trans e38).trans e39).trans e40).trans e41).trans e42) _ _ hl
    have P7 := (PairR.hid hl42 q42 (ss := [Stg.mix 1, .mix 1, .mix 1, .mix 1, .mix 1, .mix 1, .mix 1, .dial 12]) (r := none) h42 (by decide +kernel) (e42 _ _ h41) ((e41.trans e42) _ _ h40) (.cons (((((((e36.trans e37).trans e38).trans e39).trans e40).trans e41).trans e42) _ _ h35) (.cons (((((((e36.trans e37).trans e38).trans e39).trans e40).trans e41).trans e42) _ _ h35) (.cons (((((((e36.trans e37).trans e38).trans e39).trans e40).trans e41).trans e42) _ _ h35) (.cons (((((((e36.trans e37).trans e38).trans e39).trans e40).trans e41).trans e42) _ _ h35) (.cons (((((((e36.trans e37).trans e38).trans e39).trans e40).trans e41).trans e42) _ _ h35) (.cons (((((((e36.trans e37).trans e38).trans e39).trans e40).trans e41).trans e42) _ _ h35) (.cons (((((((e36.trans e37).trans e38).trans e39).trans e40).trans e41).trans e42) _ _ h35) (.cons ((((e39.trans e40).trans e41).trans e42) _ _ h38) (.nil))))))))) (by decide +kernel))
    have P1 := P1.ex (((((((x35.tr x36).tr x37).tr x38).tr x39).tr x40).tr x41).tr x42)
    have P2 := P2.ex (((((((x35.tr x36).tr x37).tr x38).tr x39).tr x40).tr x41).tr x42)
    have P3 := P3.ex (((((((x35.tr x36).tr x37).tr x38).tr x39).tr x40).tr x41).tr x42)
    have P4 := P4.ex (((((((x35.tr x36).tr x37).tr x38).tr x39).tr x40).tr x41).tr x42)
    have P5 := P5.ex (((((((x35.tr x36).tr x37).tr x38).tr x39).tr x40).tr x41).tr x42)
    have P6 := P6.ex (((((((x35.tr x36).tr x37).tr x38).tr x39).tr x40).tr x41).tr x42)
    walk_at "rd"
    refine go_app hl42 (by show 6 < sizeLine; rw [sizeLine_eq]; decide) ?_
    clear hl
    have hl := upd_same (H := G42) (a := l) (o := HO.lst [V.ref a4, V.ref a8, V.ref a12, V.ref a19, V.ref a27, V.ref a33, V.ref a42])
    have x43 : Jx [l] G42 (upd G42 l (HO.lst [V.ref a4, V.ref a8, V.ref a12, V.ref a19, V.ref a27, V.ref a33, V.ref a42])) := Jx.upd (by simp)
    have z7 := (z6.tr (((((((x35.tr x36).tr x37).tr x38).tr x39).tr x40).tr x41).tr x42)).tr x43
    have P1 := P1.ex x43
    have P2 := P2.ex x43
    have P3 := P3.ex x43
    have P4 := P4.ex x43
    have P5 := P5.ex x43
    have P6 := P6.ex x43
    have P7 := P7.ex x43
    simp only [List.cons_append, List.nil_append]
    generalize upd G42 l (HO.lst [V.ref a4, V.ref a8, V.ref a12, V.ref a19, V.ref a27, V.ref a33, V.ref a42]) = G43 at *
    walk_at "rd"
    intro t44 n44
    have e44 := Ex.new (o := HO.tup [V.str (Str.ofString "mix"), V.int 1]) n44
    have h44 := upd_same (H := G43) (a := t44) (o := HO.tup [V.str (Str.ofString "mix"), V.int 1])
    have x44 := Jx.of (S := [l]) e44
    generalize upd G43 t44 _ = G44 at *
    walk_at "rd"
    intro l45 n45
    have e45 := Ex.new (o := HO.lst [V.ref t44]) n45
    have h45 := upd_same (H := G44) (a := l45) (o := HO.lst [V.ref t44])
    have x45 := Jx.of (S := [l]) e45
    generalize upd G44 l45 _ = G45 at *
    walk_at "rd"
    refine go_rep (xs := [V.ref t44]) h45 (by decide) (by show 8 ≤ sizeLine; rw [sizeLine_eq]; decide) ?_
    intro l46 n46
    have e46 := Ex.new (o := HO.lst (List.replicate (Int.toNat 8) [V.ref t44]).flatten) n46
    have h46 := upd_same (H := G45) (a := l46) (o := HO.lst (List.replicate (Int.toNat 8) [V.ref t44]).flatten)
    have x46 := Jx.of (S := [l]) e46
    generalize upd G45 l46 _ = G46 at *
    walk_at "rd"
    intro p47 n47
    have e47 := Ex.new (o := HO.tup [V.ref l46, V.int 4]) n47
    have h47 := upd_same (H := G46) (a := p47) (o := HO.tup [V.ref l46, V.int 4])
    have x47 := Jx.of (S := [l]) e47
    generalize upd G46 p47 _ = G47 at *
    walk_at "rd"
    intro a48 n48
    have e48 := Ex.new (o := HO.tup [V.ref p47, V.str (Str.ofString "m1 m1 m1 m1 m1 m1 m1 m1 /4")]) n48
    have h48 := upd_same (H := G47) (a := a48) (o := HO.tup [V.ref p47, V.str (Str.ofString "m1 m1 m1 m1 m1 m1 m1 m1 /4")])
    have x48 := Jx.of (S := [l]) e48
    generalize upd G47 a48 _ = G48 at *
    have q48 : l46 ≠ l := fresh_ne ((e44.trans e45) _ _ hl) n46
    have hl48 := ((((e44.trans e45).trans e46).trans e47).trans e48) _ _ hl
    have P8 := (PairR.hid hl48 q48 (ss := [Stg.mix 1, .mix 1, .mix 1, .mix 1, .mix 1, .mix 1, .mix 1, .mix 1]) (r := some 4) h48 (by decide +kernel) (e48 _ _ h47) ((e47.trans e48) _ _ h46) (.cons ((((e45.trans e46).trans e47).trans e48) _ _ h44) (.cons ((((e45.trans e46).trans e47).trans e48) _ _ h44) (.cons ((((e45.trans e46).trans e47).trans e48) _ _ h44) (.cons ((((e45.trans e46).trans e47).trans e48) _ _ h44) (.cons ((((e45.trans e46).trans e47).trans e48) _ _ h44) (.cons ((((e45.trans e46).trans e47).trans e48) _ _ h44) (.cons ((((e45.trans e46).trans e47).trans e48) _ _ h44) (.cons ((((e45.trans e46).trans e47).trans e48) _ _ h44) (.nil))))))))) (by decide +kernel))
    have P1 := P1.ex ((((x44.tr x45).tr x46).tr x47).tr x48)
    have P2 := P2.ex ((((x44.tr x45).tr x46).tr x47).tr x48)
    have P3 := P3.ex ((((x44.tr x45).tr x46).tr x47).tr x48)
    have P4 := P4.ex ((((x44.tr x45).tr x46).tr x47).tr x48)
    have P5 := P5.ex ((((x44.tr x45).tr x46).tr x47).tr x48)
    have P6 := P6.ex ((((x44.tr x45).tr x46).tr x47).tr x48)
    have P7 := P7.ex ((((x44.tr x45).tr x46).tr x47).tr x48)
    walk_at "rd"
    refine go_app hl48 (by show 7 < sizeLine; rw [sizeLine_eq]; decide) ?_
    clear hl
    have hl := upd_same (H := G48) (a := l) (o := HO.lst [V.ref a4, V.ref a8, V.ref a12, V.ref a19, V.ref a27, V.ref a33, V.ref a42, V.ref a48])
    have x49 : Jx [l] G48 (upd G48 l (HO.lst [V.ref a4, V.ref a8, V.ref a12, V.ref a19, V.ref a27, V.ref a33, V.ref a42, V.ref a48])) := Jx.upd (by simp)
    have z8 := (z7.tr ((((x44.tr x45).tr x46).tr x47).tr x48)).tr x49
    have P1 := P1.ex x49
    have P2 := P2.ex x49
    have P3 := P3.ex x49
    have P4 := P4.ex x49
    have P5 := P5.ex x49
    have P6 := P6.ex x49
    have P7 := P7.ex x49
    have P8 := P8.ex x49
    simp only [List.cons_append, List.nil_append]
    generalize upd G48 l (HO.lst [V.ref a4, V.ref a8, V.ref a12, V.ref a19, V.ref a27, V.ref a33, V.ref a42, V.ref a48]) = G49 at *
    walk_at "rd"
    refine k l _ _ (((((((((((((e1.trans e2).trans e3).trans e4).trans e5).trans e6).trans e7).trans e8).trans e9).trans e10).trans e11).trans e12).trans (y.trans z8)).trans hid_ex) hl fun v hv => ?_
    simp only [List.mem_cons, List.not_mem_nil, or_false] at hv
    rcases hv with rfl | rfl | rfl | rfl | rfl | rfl | rfl | rfl
    · exact P1.ex hid_ex
    · exact P2.ex hid_ex
    · exact P3.ex hid_ex
    · exact P4.ex hid_ex
    · exact P5.ex hid_ex
    · exact P6.ex hid_ex
    · exact P7.ex hid_ex
    · exact P8.ex hid_ex
abbrev s__law_all_looks : Stmt := top 33
theorem sc__law_all_looks : FnScope ["found"] [] (defScope s__law_all_looks) := ⟨rfl, rfl, rfl, by decide +kernel, rfl, by decide +kernel, by decide +kernel⟩
theorem ok_law_all_looks {f : Addr} {fd : FuncData} (F : Fun K "_law_all_looks" "_law_all_looks" s__law_all_looks f fd) : FnOk P w K mg base CX0 1 f fd [] spAllL := by
  refine F.ok sc__law_all_looks (fun vs H Q E h => ?_) (fun cdv A outer s H vs Q E hr h => ?_)
  · obtain ⟨rfl, _⟩ := h
    rfl
  · obtain ⟨rfl, k⟩ := h
    refine ⟨_, (pss_cons (ps_set (i := 0) sc__law_all_looks.nd rfl (Or.inl rfl) (pe_lst (pa_cons (pe_tup (pa_cons (pe_lst (pa_cons (pe_tup (pa_cons pe_int (pa_cons pe_int (pa_cons pe_int pa_nil)))) (pa_cons (pe_tup (pa_cons (pe_un un_neg pe_int) (pa_cons pe_non (pa_cons pe_non pa_nil)))) pa_nil))) (pa_cons pe_str pa_nil))) (pa_cons (pe_tup (pa_cons (pe_lst (pa_cons (pe_tup (pa_cons pe_int (pa_cons pe_int (pa_cons pe_int pa_nil)))) pa_nil)) (pa_cons pe_str pa_nil))) (pa_cons (pe_tup (pa_cons (pe_lst (pa_cons (pe_tup (pa_cons pe_int (pa_cons pe_non (pa_cons pe_non pa_nil)))) pa_nil)) (pa_cons pe_str pa_nil))) pa_nil)))))
  (pss_cons (ps_expr (pe_bm PySem.F.plainAttrs_list PySem.F.slot_list_append PySem.F.type_list_append mt_append (pv 0) (pa_cons (pe_tup (pa_cons (pe_lst (pa_cons (pe_tup (pa_cons (pe_un un_neg pe_int) (pa_cons pe_int (pa_cons (pe_op op_powW pe_int pe_int) pa_nil)))) pa_nil)) (pa_cons (pe_op op_addS pe_str (pe_op op_mulS pe_str pe_int)) pa_nil))) pa_nil)))
  (pss_cons (ps_expr (pe_bm PySem.F.plainAttrs_list PySem.F.slot_list_append PySem.F.type_list_append mt_append (pv 0) (pa_cons (pe_tup (pa_cons (pe_op op_rep (pe_lst (pa_cons (pe_tup (pa_cons pe_int (pa_cons pe_non (pa_cons pe_non pa_nil)))) pa_nil)) pe_int) (pa_cons pe_str pa_nil))) pa_nil)))
  (pss_one (ps_ret (pv 0)))))), ?_⟩
    walk_at "rd"
    intro t1 n1
    have e1 := Ex.new (o := HO.tup [V.int 10, V.int 3, V.int 6]) n1
    have h1 := upd_same (H := H) (a := t1) (o := HO.tup [V.int 10, V.int 3, V.int 6])
    generalize upd H t1 _ = G1 at *
    walk_at "rd"
    intro t2 n2
    have e2 := Ex.new (o := HO.tup [V.int (-4), V.non, V.non]) n2
    have h2 := upd_same (H := G1) (a := t2) (o := HO.tup [V.int (-4), V.non, V.non])
    generalize upd G1 t2 _ = G2 at *
    walk_at "rd"
    intro l3 n3
    have e3 := Ex.new (o := HO.lst [V.ref t1, V.ref t2]) n3
    have h3 := upd_same (H := G2) (a := l3) (o := HO.lst [V.ref t1, V.ref t2])
    generalize upd G2 l3 _ = G3 at *
    walk_at "rd"
    intro a4 n4
    have e4 := Ex.new (o := HO.tup [V.ref l3, V.str (Str.ofString "10=3..6 -4=-")]) n4
    have h4 := upd_same (H := G3) (a := a4) (o := HO.tup [V.ref l3, V.str (Str.ofString "10=3..6 -4=-")])
    generalize upd G3 a4 _ = G4 at *
    have P1 := PairL.mk (ls := [⟨10, some (3, 6)⟩, ⟨-4, none⟩]) h4 (by decide +kernel) (e4 _ _ h3) (.cons (((e2.trans e3).trans e4) _ _ h1) (.cons ((e3.trans e4) _ _ h2) (.nil))) (by decide +kernel)
    walk_at "rd"
    intro t5 n5
    have e5 := Ex.new (o := HO.tup [V.int 0, V.int 0, V.int 0]) n5
    have h5 := upd_same (H := G4) (a := t5) (o := HO.tup [V.int 0, V.int 0, V.int 0])
    generalize upd G4 t5 _ = G5 at *
    walk_at "rd"
    intro l6 n6
    have e6 := Ex.new (o := HO.lst [V.ref t5]) n6
    have h6 := upd_same (H := G5) (a := l6) (o := HO.lst [V.ref t5])
    generalize upd G5 l6 _ = G6 at *
    walk_at "rd"
    intro a7 n7
    have e7 := Ex.new (o := HO.tup [V.ref l6, V.str (Str.ofString "0=0..0")]) n7
    have h7 := upd_same (H := G6) (a := a7) (o := HO.tup [V.ref l6, V.str (Str.ofString "0=0..0")])
    generalize upd G6 a7 _ = G7 at *
    have P2 := PairL.mk (ls := [⟨0, some (0, 0)⟩]) h7 (by decide +kernel) (e7 _ _ h6) (.cons ((e6.trans e7) _ _ h5) (.nil)) (by decide +kernel)
    walk_at "rd"
    intro t8 n8
    have e8 := Ex.new (o := HO.tup [V.int 0, V.non, V.non]) n8
    have h8 := upd_same (H := G7) (a := t8) (o := HO.tup [V.int 0, V.non, V.non])
    generalize upd G7 t8 _ = G8 at *
    walk_at "rd"
    intro l9 n9
    have e9 := Ex.new (o := HO.lst [V.ref t8]) n9
    have h9 := upd_same (H := G8) (a := l9) (o := HO.lst [V.ref t8])
    generalize upd G8 l9 _ = G9 at *
    walk_at "rd"
    intro a10 n10
    have e10 := Ex.new (o := HO.tup [V.ref l9, V.str (Str.ofString "0=-")]) n10
    have h10 := upd_same (H := G9) (a := a10) (o := HO.tup [V.ref l9, V.str (Str.ofString "0=-")])
    generalize upd G9 a10 _ = G10 at *
    have P3 := PairL.mk (ls := [⟨0, none⟩]) h10 (by decide +kernel) (e10 _ _ h9) (.cons ((e9.trans e10) _ _ h8) (.nil)) (by decide +kernel)
    walk_at "rd"
    intro l n11
    have e11 := Ex.new (o := HO.lst [V.ref a4, V.ref a7, V.ref a10]) n11
    have hl := upd_same (H := G10) (a := l) (o := HO.lst [V.ref a4, V.ref a7, V.ref a10])
    have y := jx_hid (Jx.of (S := [l]) e11) n11
    generalize upd G10 l _ = G11 at *
    have P1 := P1.ex ((((((e5.trans e6).trans e7).trans e8).trans e9).trans e10).trans y)
    have P2 := P2.ex (((e8.trans e9).trans e10).trans y)
    have P3 := P3.ex (y)
    have z0 : Jx [l] G11 G11 := fun b o q => q
    walk_at "rd"
    intro t12 n12
    have e12 := Ex.new (o := HO.tup [V.int (-1), V.int 1, V.int (10 ^ Int.toNat 29)]) n12
    have h12 := upd_same (H := G11) (a := t12) (o := HO.tup [V.int (-1), V.int 1, V.int (10 ^ Int.toNat 29)])
    have x12 := Jx.of (S := [l]) e12
    generalize upd G11 t12 _ = G12 at *
    walk_at "rd"
    intro l13 n13
    have e13 := Ex.new (o := HO.lst [V.ref t12]) n13
    have h13 := upd_same (H := G12) (a := l13) (o := HO.lst [V.ref t12])
    have x13 := Jx.of (S := [l]) e13
    generalize upd G12 l13 _ = G13 at *
    walk_at "rd"
    refine go_mulS (by unfold PySem.MulOk; decide +kernel) ?_
    walk_at "rd"
    refine go_rAddS (by decide +kernel) ?_
    walk_at "rd"
    intro a14 n14
    have e14 := Ex.new (o := HO.tup [V.ref l13, V.str (Str.ofString "-1=1..1" ++ Txt.mul (Str.ofString "0") 29)]) n14
    have h14 := upd_same (H := G13) (a := a14) (o := HO.tup [V.ref l13, V.str (Str.ofString "-1=1..1" ++ Txt.mul (Str.ofString "0") 29)])
    have x14 := Jx.of (S := [l]) e14
    generalize upd G13 a14 _ = G14 at *
    have q14 : l13 ≠ l := fresh_ne (e12 _ _ hl) n13
    have hl14 := ((e12.trans e13).trans e14) _ _ hl
    have P4 := (PairL.hid hl14 q14 (ls := [⟨-1, some (1, (10 ^ Int.toNat 29))⟩]) h14 (by decide +kernel) (e14 _ _ h13) (.cons ((e13.trans e14) _ _ h12) (.nil)) (by decide +kernel))
    have P1 := P1.ex ((x12.tr x13).tr x14)
    have P2 := P2.ex ((x12.tr x13).tr x14)
    have P3 := P3.ex ((x12.tr x13).tr x14)
    walk_at "rd"
    refine go_app hl14 (by show 3 < sizeLine; rw [sizeLine_eq]; decide) ?_
    clear hl
    have hl := upd_same (H := G14) (a := l) (o := HO.lst [V.ref a4, V.ref a7, V.ref a10, V.ref a14])
    have x15 : Jx [l] G14 (upd G14 l (HO.lst [V.ref a4, V.ref a7, V.ref a10, V.ref a14])) := Jx.upd (by simp)
    have z4 := (z0.tr ((x12.tr x13).tr x14)).tr x15
    have P1 := P1.ex x15
    have P2 := P2.ex x15
    have P3 := P3.ex x15
    have P4 := P4.ex x15
    simp only [List.cons_append, List.nil_append]
    generalize upd G14 l (HO.lst [V.ref a4, V.ref a7, V.ref a10, V.ref a14]) = G15 at *
    walk_at "rd"
    intro t16 n16
    have e16 := Ex.new (o := HO.tup [V.int 5, V.non, V.non]) n16
    have h16 := upd_same (H := G15) (a := t16) (o := HO.tup [V.int 5, V.non, V.non])
    have x16 := Jx.of (S := [l]) e16
    generalize upd G15 t16 _ = G16 at *
    walk_at "rd"
    intro l17 n17
    have e17 := Ex.new (o := HO.lst [V.ref t16]) n17
    have h17 := upd_same (H := G16) (a := l17) (o := HO.lst [V.ref t16])
    have x17 := Jx.of (S := [l]) e17
    generalize upd G16 l17 _ = G17 at *
    walk_at "rd"
    refine go_rep (xs := [V.ref t16]) h17 (by decide) (by show 6 ≤ sizeLine; rw [sizeLine_eq]; decide) ?_
    intro l18 n18
    have e18 := Ex.new (o := HO.lst (List.replicate (Int.toNat 6) [V.ref t16]).flatten) n18
    have h18 := upd_same (H := G17) (a := l18) (o := HO.lst (List.replicate (Int.toNat 6) [V.ref t16]).flatten)
    have x18 := Jx.of (S := [l]) e18
    generalize upd G17 l18 _ = G18 at *
    walk_at "rd"
    intro a19 n19
    have e19 := Ex.new (o := HO.tup [V.ref l18, V.str (Str.ofString "5=- 5=- 5=- 5=- 5=- 5=-")]) n19
    have h19 := upd_same (H := G18) (a := a19) (o := HO.tup [V.ref l18, V.str (Str.ofString "5=- 5=- 5=- 5=- 5=- 5=-")])
    have x19 := Jx.of (S := [l]) e19
    generalize upd G18 a19 _ = G19 at *
    have q19 : l18 ≠ l := fresh_ne ((e16.trans e17) _ _ hl) n18
    have hl19 := (((e16.trans e17).trans e18).trans e19) _ _ hl
    have P5 := (PairL.hid hl19 q19 (ls := [⟨5, none⟩, ⟨5, none⟩, ⟨5, none⟩, ⟨5, none⟩, ⟨5, none⟩, ⟨5, none⟩]) h19 (by decide +kernel) (e19 _ _ h18) (.cons (((e17.trans e18).trans e19) _ _ h16) (.cons (((e17.trans e18).trans e19) _ _ h16) (.cons (((e17.trans e18).trans e19) _ _ h16) (.cons (((e17.trans e18).trans e19) _ _ h16) (.cons (((e17.trans e18).trans e19) _ _ h16) (.cons (((e17.trans e18).trans e19) _ _ h16) (.nil))))))) (by decide +kernel))
    have P1 := P1.ex (((x16.tr x17).tr x18).tr x19)
    have P2 := P2.ex (((x16.tr x17).tr x18).tr x19)
    have P3 := P3.ex (((x16.tr x17).tr x18).tr x19)
    have P4 := P4.ex (((x16.tr x17).tr x18).tr x19)
    walk_at "rd"
    refine go_app hl19 (by show 4 < sizeLine; rw [sizeLine_eq]; decide) ?_
    clear hl
    have hl := upd_same (H := G19) (a := l) (o := HO.lst [V.ref a4, V.ref a7, V.ref a10, V.ref a14, V.ref a19])
    have x20 : Jx [l] G19 (upd G19 l (HO.lst [V.ref a4, V.ref a7, V.ref a10, V.ref a14, V.ref a19])) := Jx.upd (by simp)
    have z5 := (z4.tr (((x16.tr x17).tr x18).tr x19)).tr x20
    have P1 := P1.ex x20
    have P2 := P2.ex x20
    have P3 := P3.ex x20
    have P4 := P4.ex x20
    have P5 := P5.ex x20
    simp only [List.cons_append, List.nil_append]
    generalize upd G19 l (HO.lst [V.ref a4, V.ref a7, V.ref a10, V.ref a14, V.ref a19]) = G20 at *
    walk_at "rd"
    refine k l _ _ (((((((((((e1.trans e2).trans e3).trans e4).trans e5).trans e6).trans e7).trans e8).trans e9).trans e10).trans (y.trans z5)).trans hid_ex) hl fun v hv => ?_
    simp only [List.mem_cons, List.not_mem_nil, or_false] at hv
    rcases hv with rfl | rfl | rfl | rfl | rfl
    · exact P1.ex hid_ex
    · exact P2.ex hid_ex
    · exact P3.ex hid_ex
    · exact P4.ex hid_ex
    · exact P5.ex hid_ex
end
end Kx

set_option Elab.async false
set_option linter.all false
set_option maxRecDepth 100000
set_option maxHeartbeats 4000000

namespace Kx
open PySem PySem.Spec PyProof.Rows L2 HX TL
open Evl (Ex)
local macro_rules | `(tactic| walk_at "len") => `(tactic| first | assumption | exact le_line (by assumption) | exact le_line (by omega) | exact le_line (Nat.le_trans (cutS_length _ _ _) (by omega)) | (rw [sizeLine_eq]; omega))
local macro_rules | `(tactic| walk_at "side") => `(tactic| first | assumption | ((try dsimp only); first | assumption | decide +kernel | omega | exact ⟨by decide, by decide⟩ | (left; decide) | (left; omega) | (refine Or.inl ⟨?_, ?_⟩ <;> omega) | (refine Or.inr ⟨?_, ?_⟩ <;> omega)))
local macro_rules | `(tactic| walk_at "heap") => `(tactic| first | assumption | exact upd_same | exact Or.inl (by assumption) | exact Or.inl upd_same)
local macro_rules | `(tactic| walk_at "item") => `(tactic| first | exact rfl | exact atI_nat (j := 0) rfl | exact atI_nat (j := 1) rfl | exact atI_nat (j := 2) rfl | assumption)
local macro_rules | `(tactic| walk_at "rd") => `(tactic| repeat (first
  | ((with_reducible refine' go_var ?hv ?_); (case hv => exact rfl))
  | with_reducible refine' go_c ?_
  | with_reducible refine' go_op ?_
  | with_reducible refine' go_seq ?_
  | with_reducible refine' go_asg ?_
  | with_reducible refine' go_name ?_
  | with_reducible refine' go_cons ?_
  | with_reducible refine' go_nil ?_
  | with_reducible refine' go_cb ?_
  | with_reducible refine' go_call ?_
  | with_reducible refine' go_ifS ?_
  | with_reducible refine' go_test ?_
  | with_reducible refine' go_bl ?_
  | with_reducible refine' go_ret ?_
  | with_reducible refine' go_I0 ?_
  | ((with_reducible refine' go_I ?cc ?_); (case cc => walk_at "side"))
  | ((with_reducible refine' go_ixL ?hh ?hk ?_); (case hh => walk_at "heap"); (case hk => walk_at "item"))
  | ((with_reducible refine' go_ixT ?hh ?hk ?_); (case hh => walk_at "heap"); (case hk => walk_at "item"))
  | ((with_reducible refine' go_lenL ?hh ?_); (case hh => walk_at "heap"))
  | ((with_reducible refine' go_lenT ?hh ?_); (case hh => walk_at "heap"))
  | ((with_reducible refine' go_setL ?hh ?hk ?_); (case hh => walk_at "heap"); (case hk => walk_at "item"))
  | with_reducible refine' go_abs ?_
  | with_reducible refine' go_max ?_
  | with_reducible refine' go_min ?_
  | with_reducible refine' go_int ?_
  | with_reducible refine' go_intB ?_
  | (with_reducible refine' go_eq rfl ?_)
  | (with_reducible refine' go_ne rfl ?_)
  | with_reducible refine' go_isN ?_
  | with_reducible refine' go_notN ?_
  | with_reducible refine' go_if ?_
  | with_reducible refine' go_sub ?_
  | with_reducible refine' go_par ?_
  | with_reducible refine' go_sl ?_
  | with_reducible refine' go_part ?_
  | with_reducible refine' go_pint ?_
  | with_reducible refine' go_nopart ?_
  | ((with_reducible refine' go_lenL ?hh ?_); (case hh => walk_at "heap"))
  | ((with_reducible refine' go_lenT ?hh ?_); (case hh => walk_at "heap"))
  | ((with_reducible refine' go_lenS ?hh ?_); (case hh => assumption))
  | with_reducible refine' go_gcons ?_
  | with_reducible refine' go_gnil ?_
  | with_reducible refine' go_kw ?_
  | with_reducible refine' go_par2 ?_
  | with_reducible refine' go_next ?_
  | with_reducible refine' go_drop ?_
  | with_reducible refine' go_and ?_
  | with_reducible refine' go_or ?_
  | with_reducible refine' go_not ?_
  | with_reducible refine' go_B ?_
  | with_reducible refine' go_andV ?_
  | with_reducible refine' go_orV ?_
  | with_reducible refine' go_notV ?_
  | with_reducible refine' go_chain ?_
  | with_reducible refine' go_un ?_
  | with_reducible refine' go_U ?_
  | with_reducible refine' go_bm ?_
  | with_reducible refine' go_tup ?_
  | with_reducible refine' go_lst ?_
  | with_reducible refine' go_forR1 ?_
  | with_reducible refine' go_forR2 ?_
  | with_reducible refine' go_forL ?_
  | with_reducible refine' go_forT ?_
  | with_reducible refine' go_forE ?_
  | with_reducible refine' go_lcR1 ?_
  | with_reducible refine' go_lcL ?_
  | with_reducible refine' go_lcT ?_
  | ((with_reducible refine' go_tyL ?hh ?_); (case hh => walk_at "heap"))
  | ((with_reducible refine' go_new ?hz ?_); (case hz => exact Nat.le_of_ble_eq_true rfl))
  | with_reducible refine' go_par3 ?_
  | with_reducible refine' go_three ?_
  | with_reducible refine' go_m1 ?_
  | with_reducible refine' go_isS ?_
  | with_reducible refine' go_rSw ?_
  | with_reducible refine' go_rFnd ?_
  | ((with_reducible refine' go_rPrt (by decide +kernel) ?hz ?_); (case hz => walk_at "len"))
  | ((with_reducible refine' go_rSpl (by decide +kernel) ?hz ?_); (case hz => walk_at "len"))
  | ((with_reducible refine' go_rLenS ?hz ?_); (case hz => walk_at "len"))
  | ((with_reducible refine' go_slS ?hz ?_); (case hz => walk_at "len"))
  | with_reducible refine' go_sgn ?_
  | with_reducible refine' go_nsg ?_
  | with_reducible refine' go_lcS ?_
  | (with_reducible refine' ⟨_, rfl, ?_⟩)
  ))
--MACEND
section
variable {X : Cx} {k n : Nat} {sp : Sp} {x : Str} {p pos : Pos}
theorem pe_hs0 (h : Has X.prog X.w X.K X.mg X.base k x sp) (hr : Room n X.A) (hg : Gl X x) (hkn : k ≤ n := by decide) (hdb : (x == ("__debug__" : Str)) = false := by decide) :
    PE X (.Call (.Name x p) [] [] pos) (tCall sp [] E0 tNil) := by
  obtain ⟨f, fd, ps, F, hm, hk, hb⟩ := h
  exact pe_call0 F (hr.mono hkn) hg hm hk hb .nil pass0 hdb
end
def spLaw (K : PySem.W.Frag) : Sp := fun vs H Q _ => ∃ (a : Addr) (ns : List Int), vs = [.ref a] ∧ ns.length ≤ 100000 ∧ SqL K H a (ns.map V.int) ∧ ∀ H', Q (.bl true) H'
theorem par_set {CS : Addr} {H : Hp} {Q : VK} {E : XK} {t : Str} {ss : List Stg} {r : Option Int} (hp : parR (words t) 0 [] none = .ok (ss, r)) (ht : t.length ≤ 1000000)
    (k : ∀ p l vs H', Ex H H' → H p = none → H l = none → p ≠ l → H' p = some (.tup [.ref l, optV r]) → H' l = some (.lst vs) → Tps H' vs (ss.map Stg.vals) → Q (.ref p) H') : spParR CS [.str t] H Q E :=
  ⟨.str t, .str t, rfl, .str t, (fun h => by simp [pStr] at h), fun t' e => by cases e; exact ⟨ht, by rw [hp]; exact k⟩⟩
theorem par_lks {CS : Addr} {H : Hp} {Q : VK} {E : XK} {t : Str} {ls : List Lk} (hp : parL (words t) 0 [] = .ok ls) (ht : t.length ≤ 1000000)
    (k : ∀ l vs H', Ex H H' → H l = none → H' l = some (.lst vs) → Tps H' vs (ls.map Lk.vals) → Q (.ref l) H') : spParL CS [.str t] H Q E :=
  ⟨.str t, .str t, rfl, .str t, (fun h => by simp [pStr] at h), fun t' e => by cases e; exact ⟨ht, by rw [hp]; exact k⟩⟩
theorem rad_at {H : Hp} {p l : Addr} {vs : List V} {ss : List Stg} {r : Option Int} (h1 : H p = some (.tup [.ref l, optV r])) (h2 : H l = some (.lst vs)) (h3 : Tps H vs (ss.map Stg.vals)) : Dq H (.ref p) (radD ss r) := RadAt.dq ⟨⟨l, vs, h1, h2, h3⟩⟩
theorem lay_lks : ∀ ls : List Lk, PyData.canLayAll0 (ls.map Lk.d) = true
  | [] => rfl
  | ⟨d, b⟩ :: ls => by
    rw [List.map_cons, PyData.canLayAll0, lay_lks ls]
    cases b <;> rfl
theorem lay_rad (ss : List Stg) (r : Option Int) : (radD ss r).canLay0 = true := by
  have h := (lay_stgs ss).1
  unfold radD
  rw [PyData.canLay0, PyData.canLayAll0, PyData.canLay0, h]
  cases r <;> rfl
theorem lay_looks (ls : List Lk) : (PyData.list (ls.map Lk.d)).canLay0 = true := by rw [PyData.canLay0]; exact lay_lks ls
theorem shaped_fine {d : PyData} {w k : Nat} (h : d.canLay0 = true) (f : Fine w k d) (hk : k ≤ 64) : SeqAt.shaped d = true := by
  unfold SeqAt.shaped
  rw [Bool.and_eq_true]
  exact ⟨h, decide_eq_true (Nat.le_trans f.dp hk)⟩
theorem go_neT {K : PySem.W.Frag} {H : Hp} {Q : VK} {x y : V} {d : PyData} (h1 : Dq H x d) (h2 : Dq H y d) (s1 : SeqAt.shaped d = true) (q : Q (.bl false) H) : rNeD K x y H Q :=
  go_neD h1 h2 s1 s1 (by rw [SeqAt.eqv_refl d (SeqAt.canLay_of_shaped s1)]; exact q)
theorem GoodR.out {ss : List Stg} {r : Option Int} (g : GoodR ss r) : ss ≠ [] ∧ (∀ s ∈ ss, s.small 30) ∧ (∀ x, r = some x → Small 30 x) ∧ ∀ x, r = some x → 2 ≤ x ∧ Small 30 x := by
  obtain ⟨h0, h8, h1, hf, hr⟩ := g
  refine ⟨fun z => h0 (by rw [z]; rfl), fun s hs => (hf s hs).small, fun x hx => ?_, fun x hx => ?_⟩
  · subst hx; exact hr.2
  · subst hx; exact hr
theorem GoodL.out {ls : List Lk} (g : GoodL ls) : ls ≠ [] ∧ (∀ l ∈ ls, l.small 30) ∧ ∀ l ∈ ls, l.fit := by
  obtain ⟨h0, h6, hf⟩ := g
  have ff : ∀ l ∈ ls, l.fit := fun l hl => ⟨(hf l hl).1, fun b hb => by have := (hf l hl).2; rw [hb] at this; exact this⟩
  exact ⟨fun z => h0 (by rw [z]; rfl), fun l hl => (ff l hl).small, ff⟩
section
variable {P : Program} {w : World} {K : PySem.W.Frag} {mg : Str → Option Value} {base : Heap} {CS : Addr}
abbrev s_law : Stmt := top 34
theorem sc_law : FnScope ["script", "radio", "written", "looks_here"] ["script"] (defScope s_law) := ⟨rfl, rfl, rfl, by decide +kernel, rfl, by decide +kernel, by decide +kernel⟩
theorem ok_law {f : Addr} {fd : FuncData} (F : Fun K "law" "law" s_law f fd) (m_repr : mg "repr" = none)
    (h__law_radios : Has P w K mg base 1 "_law_radios" spRadios) (h__law_all_looks : Has P w K mg base 1 "_law_all_looks" spAllL)
    (h_format_receiver : Has P w K mg base 2 "format_receiver" spSetT) (h_format_looks : Has P w K mg base 2 "format_looks" spLooksT)
    (h_format_receiver_kw : HasK P w K mg base 2 "format_receiver" ["receiver"] (fun ws => ws) (fun zs => zs) spSetT) (h_format_looks_kw : HasK P w K mg base 2 "format_looks" ["looks"] (fun ws => ws) (fun zs => zs) spLooksT)
    (h_parse_receiver_kw : HasKX P w K mg base 6 "parse_receiver" ["text"] (fun ws => ws) (fun zs => zs) (spParR CS)) (h_parse_looks_kw : HasKX P w K mg base 6 "parse_looks" ["text"] (fun ws => ws) (fun zs => zs) (spParL CS))
    (h_parse_receiver : HasX P w K mg base 6 "parse_receiver" (spParR CS)) (h_parse_looks : HasX P w K mg base 6 "parse_looks" (spParL CS)) :
    FnG P w K mg base CX0 7 f fd ["script"] (spLaw K) := by
  refine okG F sc_law (fun vs H Q E h => ?_) (fun cdv A outer s H vs Q E hgd hr h => ?_)
  · obtain ⟨a, ns, rfl, _⟩ := h
    rfl
  · obtain ⟨a, ns, rfl, hlen, hS, k⟩ := h
    refine ⟨_, PSs.nox ((pss_cons (ps_for PassesOwn.never rfl (pi_list (pe_hs0 h__law_radios hr rfl)) (pg_tup (by rfl) (pgs_cons (pg_name (i := 1) sc_law.nd rfl (Or.inl rfl)) (pgs_cons (pg_name (i := 2) sc_law.nd rfl (Or.inl rfl)) pgs_nil)))
  (pss_cons (ps_if (PW.pt (pw_or (pt_cmpR op_ne (pe_callB (call_repr hgd hr.units) rfl m_repr (by decide +kernel) (pa_cons (pe_hs h_format_receiver hr rfl (pa_cons (pv 1) pa_nil)) pa_nil)) (pe_callB (call_repr hgd hr.units) rfl m_repr (by decide +kernel) (pa_cons (pv 2) pa_nil)) (nomark _)) (pw_or1 (pt_cmpR op_ne (pe_callB (call_repr hgd hr.units) rfl m_repr (by decide +kernel) (pa_cons (pe_hs0X h_parse_receiver hr rfl (pa_cons (pv 2) pa_nil)) pa_nil)) (pe_callB (call_repr hgd hr.units) rfl m_repr (by decide +kernel) (pa_cons (pv 1) pa_nil)) (nomark _)))))
  (pss_one (ps_ret pe_bl))
  pss_nil)
  (pss_one (ps_if (PW.pt (pw_or (pt_cmpR op_ne (pe_kw h_format_receiver_kw hr rfl (pk_cons (pv 1) pk_nil)) (pv 2) (nomark _)) (pw_or1 (pt_cmpR (op_neD hr.units) (pe_kwX h_parse_receiver_kw hr rfl (pk_cons (pv 2) pk_nil)) (pv 1) (nomark _)))))
  (pss_one (ps_ret pe_bl))
  pss_nil))))
  (pss_cons (ps_for PassesOwn.never rfl (pi_list (pe_hs0 h__law_all_looks hr rfl)) (pg_tup (by rfl) (pgs_cons (pg_name (i := 3) sc_law.nd rfl (Or.inl rfl)) (pgs_cons (pg_name (i := 2) sc_law.nd rfl (Or.inl rfl)) pgs_nil)))
  (pss_cons (ps_if (PW.pt (pw_or (pt_cmpR op_ne (pe_callB (call_repr hgd hr.units) rfl m_repr (by decide +kernel) (pa_cons (pe_hs h_format_looks hr rfl (pa_cons (pv 3) pa_nil)) pa_nil)) (pe_callB (call_repr hgd hr.units) rfl m_repr (by decide +kernel) (pa_cons (pv 2) pa_nil)) (nomark _)) (pw_or1 (pt_cmpR op_ne (pe_callB (call_repr hgd hr.units) rfl m_repr (by decide +kernel) (pa_cons (pe_hs0X h_parse_looks hr rfl (pa_cons (pv 2) pa_nil)) pa_nil)) (pe_callB (call_repr hgd hr.units) rfl m_repr (by decide +kernel) (pa_cons (pv 3) pa_nil)) (nomark _)))))
  (pss_one (ps_ret pe_bl))
  pss_nil)
  (pss_one (ps_if (PW.pt (pw_or (pt_cmpR op_ne (pe_kw h_format_looks_kw hr rfl (pk_cons (pv 3) pk_nil)) (pv 2) (nomark _)) (pw_or1 (pt_cmpR (op_neD hr.units) (pe_kwX h_parse_looks_kw hr rfl (pk_cons (pv 2) pk_nil)) (pv 3) (nomark _)))))
  (pss_one (ps_ret pe_bl))
  pss_nil))))
  (pss_one (ps_ret pe_bl))))), ?_⟩
    walk_at "rd"
    refine ⟨rfl, fun l xs G1 e1 hl hP => ?_⟩
    walk_at "rd"
    refine ⟨⟨xs, .inl (.inl hl)⟩, ?_⟩
    refine run_forL xs (fun i σ G => ∃ v1 v2 v3 : Option V, σ = [some (.ref a), v1, v2, v3] ∧ Ex G1 G) ?_ ?_ ?_ ?_
    · exact ⟨_, _, _, rfl, Ex.refl _⟩
    · rintro i σ G _ ⟨_, _, _, rfl, e⟩
      exact .inl (.inl (e _ _ hl))
    · rintro i v σ G hv ⟨v1, v2, v3, rfl, e⟩
      have hp := (hP v (List.mem_of_getElem? hv)).ex e
      cases hp with
      | @mk a0 p l0 t ss r vs0 h1 h2 h3 h4 h5 g =>
        subst h2
        obtain ⟨g0, sR, sr, hrt⟩ := g.out
        obtain ⟨_, h8, hd1, hf, _⟩ := id g
        have bS := set_back g0 h8 hd1 hf hrt
        have lS : (setS ss r).length ≤ 1000000 := Nat.le_trans (setS_len30 h8 sR sr) (by decide)
        have tfin := Pl.fine (pl_setS ss r) (setS_len30 h8 sR sr)
        have fin := rad_fine (k := 30) (by decide) h8 sR sr
        have hR : RadAt G p ss r := ⟨⟨l0, vs0, h3, h4, h5⟩⟩
        have shp := shaped_fine (lay_rad ss r) fin (by decide)
        walk_at "rd"
        refine go_gtup (.inl (.inl h1)) rfl ?_
        walk_at "rd"
        refine ⟨p, ss, r, 30, rfl, hR, h8, by decide, by decide, sR, sr, fun Ga ea => ?_⟩
        walk_at "rd"
        refine go_repr (.str _) tfin (by decide) (by decide) ?_
        walk_at "rd"
        refine go_repr (.str _) tfin (by decide) (by decide) ?_
        walk_at "rd"
        rw [decide_eq_true rfl]
        refine iteF ?_
        walk_at "rd"
        refine par_set bS lS fun p1 l1 vs1 Gb eb np1 nl1 pl1 hp1 hl1 hT1 => ?_
        walk_at "rd"
        refine go_repr (rad_at hp1 hl1 hT1) fin (by decide) (by decide) ?_
        walk_at "rd"
        refine go_repr (hR.dq.ex (ea.trans eb)) fin (by decide) (by decide) ?_
        walk_at "rd"
        rw [decide_eq_true rfl]
        refine iteF ?_
        walk_at "rd"
        refine ⟨rfl, p, ss, r, 30, rfl, hR.mono (ea.trans eb), h8, by decide, by decide, sR, sr, fun Gc ec => ?_⟩
        walk_at "rd"
        rw [decide_eq_true rfl]
        refine iteF ?_
        walk_at "rd"
        refine ⟨rfl, par_set bS lS fun p2 l2 vs2 Gd ed np2 nl2 pl2 hp2 hl2 hT2 => ?_⟩
        walk_at "rd"
        refine go_neT (rad_at hp2 hl2 hT2) (hR.dq.ex (((ea.trans eb).trans ec).trans ed)) shp ?_
        walk_at "rd"
        refine iteF ?_
        refine go_next ?_
        exact ⟨_, _, _, rfl, (((e.trans ea).trans eb).trans ec).trans ed⟩
    · rintro σ G2 ⟨v1, v2, v3, rfl, e2⟩
      walk_at "rd"
      refine ⟨rfl, fun l2 xs2 G3 e3 hl2 hP2 => ?_⟩
      walk_at "rd"
      refine ⟨⟨xs2, .inl (.inl hl2)⟩, ?_⟩
      refine run_forL xs2 (fun i σ G => ∃ v1 v2 v3 : Option V, σ = [some (.ref a), v1, v2, v3] ∧ Ex G3 G) ?_ ?_ ?_ ?_
      · exact ⟨_, _, _, rfl, Ex.refl _⟩
      · rintro i σ G _ ⟨_, _, _, rfl, e⟩
        exact .inl (.inl (e _ _ hl2))
      · rintro i v σ G hv ⟨v1, v2, v3, rfl, e⟩
        have hp := (hP2 v (List.mem_of_getElem? hv)).ex e
        cases hp with
        | @mk a0 q t ls vs0 h1 h2 h4 h5 g =>
          subst h2
          obtain ⟨g0, sL, hf⟩ := g.out
          obtain ⟨_, h6, _⟩ := id g
          have bL := looks_back g0 h6 hf
          have lL : (looksS ls).length ≤ 1000000 := Nat.le_trans (looksS_len30 h6 sL) (by decide)
          have tfin := Pl.fine (pl_looksS ls) (looksS_len30 h6 sL)
          have fin := lks_fine (k := 30) (by decide) (by omega) sL
          have dL : Dq G (.ref q) (.list (ls.map Lk.d)) := .lst (.inl h4) (tps_lks h5)
          have shp := shaped_fine (lay_looks ls) fin (by decide)
          walk_at "rd"
          refine go_gtup (.inl (.inl h1)) rfl ?_
          walk_at "rd"
          refine ⟨q, vs0, ls, 30, rfl, h4, h5, by omega, by decide, by decide, sL, fun Ga ea => ?_⟩
          walk_at "rd"
          refine go_repr (.str _) tfin (by decide) (by decide) ?_
          walk_at "rd"
          refine go_repr (.str _) tfin (by decide) (by decide) ?_
          walk_at "rd"
          rw [decide_eq_true rfl]
          refine iteF ?_
          walk_at "rd"
          refine par_lks bL lL fun l5 vs1 Gb eb nl1 hl1 hT1 => ?_
          walk_at "rd"
          refine go_repr (.lst (.inl hl1) (tps_lks hT1)) fin (by decide) (by decide) ?_
          walk_at "rd"
          refine go_repr (dL.ex (ea.trans eb)) fin (by decide) (by decide) ?_
          walk_at "rd"
          rw [decide_eq_true rfl]
          refine iteF ?_
          walk_at "rd"
          refine ⟨rfl, q, vs0, ls, 30, rfl, (ea.trans eb) _ _ h4, h5.ex (ea.trans eb), by omega, by decide, by decide, sL, fun Gc ec => ?_⟩
          walk_at "rd"
          rw [decide_eq_true rfl]
          refine iteF ?_
          walk_at "rd"
          refine ⟨rfl, par_lks bL lL fun l6 vs2 Gd ed nl2 hl6 hT2 => ?_⟩
          walk_at "rd"
          refine go_neT (.lst (.inl hl6) (tps_lks hT2)) (dL.ex (((ea.trans eb).trans ec).trans ed)) shp ?_
          walk_at "rd"
          refine iteF ?_
          refine go_next ?_
          exact ⟨_, _, _, rfl, (((e.trans ea).trans eb).trans ec).trans ed⟩
      · rintro σ G4 ⟨v1, v2, v3, rfl, e4⟩
        walk_at "rd"
        exact k _
end
end Kx

set_option Elab.async false
set_option linter.all false
set_option maxRecDepth 100000
set_option maxHeartbeats 2000000
namespace Kx
open PySem PySem.Spec PyProof.Rows L2 HX TL
open Evl (Ex)

theorem all_mk {P : Program} {w : World} {K : PySem.W.Frag} {h : Heap} {mg : Str → Option Value} {fa f1 f2 f3 f4 f5 f6 f7 f8 f9 f10 f11 f12 f13 f14 f15 f16 f17 f18 f19 f20 f21 f22 : Addr} {od1 an1 od2 an2 od3 an3 od4 an4 od5 an5 od6 an6 od7 an7 od8 an8 od9 an9 od10 an10 od11 an11 od12 an12 od13 an13 od14 an14 od15 an15 od16 an16 od17 an17 od18 an18 od19 an19 od20 an20 od21 an21 od22 an22 : Option Addr} {sl1 sl2 sl3 sl4 sl5 sl6 sl7 sl8 sl9 sl10 sl11 sl12 sl13 sl14 sl15 sl16 sl17 sl18 sl19 sl20 sl21 sl22 : Array (Option Value)} {oc1 kV1 dc1 pm1 cd1 ct1 oc2 kV2 dc2 pm2 cd2 ct2 oc3 kV3 dc3 pm3 cd3 ct3 oc4 kV4 dc4 pm4 cd4 ct4 oc5 kV5 dc5 pm5 cd5 ct5 oc6 kV6 dc6 pm6 cd6 ct6 oc7 kV7 dc7 pm7 cd7 ct7 oc8 kV8 dc8 pm8 cd8 ct8 oc9 kV9 dc9 pm9 cd9 ct9 oc10 kV10 dc10 pm10 cd10 ct10 oc11 kV11 dc11 pm11 cd11 ct11 oc12 kV12 dc12 pm12 cd12 ct12 oc13 kV13 dc13 pm13 cd13 ct13 oc14 kV14 dc14 pm14 cd14 ct14 oc15 kV15 dc15 pm15 cd15 ct15 oc16 kV16 dc16 pm16 cd16 ct16 oc17 kV17 dc17 pm17 cd17 ct17 oc18 kV18 dc18 pm18 cd18 ct18 oc19 kV19 dc19 pm19 cd19 ct19 oc20 kV20 dc20 pm20 cd20 ct20 oc21 kV21 dc21 pm21 cd21 ct21 oc22 kV22 dc22 pm22 cd22 ct22 : Value} {t1 t2 t3 t4 t5 : Tok}
    {C0 : Addr}
    {i0 u0 v0 N0 : Addr} {nm0 qn0 q0 msg0 file0 : Str} {bs0 bm0 sub0 : List Value} {sn0 : List Str} {ab0 : Bool} {col0 : Option Bool} {dd0 eod0 ean0 cld0 dld0 : Option Addr} {m0_0 m0_1 m0_2 m0_3 m0_5 : Option Value} {eoc0 edc0 epm0 ect0 cl0 dl0 : Value} {esl0 csl0 dsl0 : Array (Option Value)} {vs0 : Array Value} {tf0 : Tok} {p1_0 p2_0 a1_0 a2_0 a3_0 a4_0 a5_0 a6_0 q1_0 q2_0 q3_0 q4_0 : Pos} (X : K.In h) (G : h.Ns mainGlobals mg) (hfa : mg "law" = some (.ref fa))
    (a1 : PySem.W.nsIn K mainGlobals "is_integer" = some (some (.ref f1)))
    (l1 : K.lookup f1 = some ⟨oc1, od1, .func (PySem.W.fnOf "is_integer" "is_integer" (defArgs s_is_integer) (defBody s_is_integer) (defScope s_is_integer) .none kV1 dc1 pm1 an1 cd1 ct1), sl1⟩)
    (c1 : PySem.W.codeIn K cd1 "is_integer" = true)
    (k1 : PySem.W.keepIn K (.ref f1) = true)
    (a2 : PySem.W.nsIn K mainGlobals "is_natural" = some (some (.ref f2)))
    (l2 : K.lookup f2 = some ⟨oc2, od2, .func (PySem.W.fnOf "is_natural" "is_natural" (defArgs s_is_natural) (defBody s_is_natural) (defScope s_is_natural) .none kV2 dc2 pm2 an2 cd2 ct2), sl2⟩)
    (c2 : PySem.W.codeIn K cd2 "is_natural" = true)
    (k2 : PySem.W.keepIn K (.ref f2) = true)
    (a3 : PySem.W.nsIn K mainGlobals "is_band" = some (some (.ref f3)))
    (l3 : K.lookup f3 = some ⟨oc3, od3, .func (PySem.W.fnOf "is_band" "is_band" (defArgs s_is_band) (defBody s_is_band) (defScope s_is_band) .none kV3 dc3 pm3 an3 cd3 ct3), sl3⟩)
    (c3 : PySem.W.codeIn K cd3 "is_band" = true)
    (k3 : PySem.W.keepIn K (.ref f3) = true)
    (a4 : PySem.W.nsIn K mainGlobals "is_rate" = some (some (.ref f4)))
    (l4 : K.lookup f4 = some ⟨oc4, od4, .func (PySem.W.fnOf "is_rate" "is_rate" (defArgs s_is_rate) (defBody s_is_rate) (defScope s_is_rate) .none kV4 dc4 pm4 an4 cd4 ct4), sl4⟩)
    (c4 : PySem.W.codeIn K cd4 "is_rate" = true)
    (k4 : PySem.W.keepIn K (.ref f4) = true)
    (a5 : PySem.W.nsIn K mainGlobals "read_number" = some (some (.ref f5)))
    (l5 : K.lookup f5 = some ⟨oc5, od5, .func (PySem.W.fnOf "read_number" "read_number" (defArgs s_read_number) (defBody s_read_number) (defScope s_read_number) .none kV5 dc5 pm5 an5 cd5 ct5), sl5⟩)
    (c5 : PySem.W.codeIn K cd5 "read_number" = true)
    (k5 : PySem.W.keepIn K (.ref f5) = true)
    (a6 : PySem.W.nsIn K mainGlobals "read_natural" = some (some (.ref f6)))
    (l6 : K.lookup f6 = some ⟨oc6, od6, .func (PySem.W.fnOf "read_natural" "read_natural" (defArgs s_read_natural) (defBody s_read_natural) (defScope s_read_natural) .none kV6 dc6 pm6 an6 cd6 ct6), sl6⟩)
    (c6 : PySem.W.codeIn K cd6 "read_natural" = true)
    (k6 : PySem.W.keepIn K (.ref f6) = true)
    (a7 : PySem.W.nsIn K mainGlobals "read_band" = some (some (.ref f7)))
    (l7 : K.lookup f7 = some ⟨oc7, od7, .func (PySem.W.fnOf "read_band" "read_band" (defArgs s_read_band) (defBody s_read_band) (defScope s_read_band) .none kV7 dc7 pm7 an7 cd7 ct7), sl7⟩)
    (c7 : PySem.W.codeIn K cd7 "read_band" = true)
    (k7 : PySem.W.keepIn K (.ref f7) = true)
    (a8 : PySem.W.nsIn K mainGlobals "_read_stage" = some (some (.ref f8)))
    (l8 : K.lookup f8 = some ⟨oc8, od8, .func (PySem.W.fnOf "_read_stage" "_read_stage" (defArgs s__read_stage) (defBody s__read_stage) (defScope s__read_stage) .none kV8 dc8 pm8 an8 cd8 ct8), sl8⟩)
    (c8 : PySem.W.codeIn K cd8 "_read_stage" = true)
    (k8 : PySem.W.keepIn K (.ref f8) = true)
    (a9 : PySem.W.nsIn K mainGlobals "_read_rate" = some (some (.ref f9)))
    (l9 : K.lookup f9 = some ⟨oc9, od9, .func (PySem.W.fnOf "_read_rate" "_read_rate" (defArgs s__read_rate) (defBody s__read_rate) (defScope s__read_rate) .none kV9 dc9 pm9 an9 cd9 ct9), sl9⟩)
    (c9 : PySem.W.codeIn K cd9 "_read_rate" = true)
    (k9 : PySem.W.keepIn K (.ref f9) = true)
    (a10 : PySem.W.nsIn K mainGlobals "_read_look" = some (some (.ref f10)))
    (l10 : K.lookup f10 = some ⟨oc10, od10, .func (PySem.W.fnOf "_read_look" "_read_look" (defArgs s__read_look) (defBody s__read_look) (defScope s__read_look) .none kV10 dc10 pm10 an10 cd10 ct10), sl10⟩)
    (c10 : PySem.W.codeIn K cd10 "_read_look" = true)
    (k10 : PySem.W.keepIn K (.ref f10) = true)
    (a11 : PySem.W.nsIn K mainGlobals "dial_place" = some (some (.ref f11)))
    (l11 : K.lookup f11 = some ⟨oc11, od11, .func (PySem.W.fnOf "dial_place" "dial_place" (defArgs s_dial_place) (defBody s_dial_place) (defScope s_dial_place) .none kV11 dc11 pm11 an11 cd11 ct11), sl11⟩)
    (c11 : PySem.W.codeIn K cd11 "dial_place" = true)
    (k11 : PySem.W.keepIn K (.ref f11) = true)
    (a12 : PySem.W.nsIn K mainGlobals "_may_follow" = some (some (.ref f12)))
    (l12 : K.lookup f12 = some ⟨oc12, od12, .func (PySem.W.fnOf "_may_follow" "_may_follow" (defArgs s__may_follow) (defBody s__may_follow) (defScope s__may_follow) .none kV12 dc12 pm12 an12 cd12 ct12), sl12⟩)
    (c12 : PySem.W.codeIn K cd12 "_may_follow" = true)
    (k12 : PySem.W.keepIn K (.ref f12) = true)
    (a13 : PySem.W.nsIn K mainGlobals "_words_of" = some (some (.ref f13)))
    (l13 : K.lookup f13 = some ⟨oc13, od13, .func (PySem.W.fnOf "_words_of" "_words_of" (defArgs s__words_of) (defBody s__words_of) (defScope s__words_of) .none kV13 dc13 pm13 an13 cd13 ct13), sl13⟩)
    (c13 : PySem.W.codeIn K cd13 "_words_of" = true)
    (k13 : PySem.W.keepIn K (.ref f13) = true)
    (a14 : PySem.W.nsIn K mainGlobals "parse_receiver" = some (some (.ref f14)))
    (l14 : K.lookup f14 = some ⟨oc14, od14, .func (PySem.W.fnOf "parse_receiver" "parse_receiver" (defArgs s_parse_receiver) (defBody s_parse_receiver) (defScope s_parse_receiver) .none kV14 dc14 pm14 an14 cd14 ct14), sl14⟩)
    (c14 : PySem.W.codeIn K cd14 "parse_receiver" = true)
    (k14 : PySem.W.keepIn K (.ref f14) = true)
    (a15 : PySem.W.nsIn K mainGlobals "parse_looks" = some (some (.ref f15)))
    (l15 : K.lookup f15 = some ⟨oc15, od15, .func (PySem.W.fnOf "parse_looks" "parse_looks" (defArgs s_parse_looks) (defBody s_parse_looks) (defScope s_parse_looks) .none kV15 dc15 pm15 an15 cd15 ct15), sl15⟩)
    (c15 : PySem.W.codeIn K cd15 "parse_looks" = true)
    (k15 : PySem.W.keepIn K (.ref f15) = true)
    (a16 : PySem.W.nsIn K mainGlobals "_stage_word" = some (some (.ref f16)))
    (l16 : K.lookup f16 = some ⟨oc16, od16, .func (PySem.W.fnOf "_stage_word" "_stage_word" (defArgs s__stage_word) (defBody s__stage_word) (defScope s__stage_word) .none kV16 dc16 pm16 an16 cd16 ct16), sl16⟩)
    (c16 : PySem.W.codeIn K cd16 "_stage_word" = true)
    (k16 : PySem.W.keepIn K (.ref f16) = true)
    (a17 : PySem.W.nsIn K mainGlobals "_look_word" = some (some (.ref f17)))
    (l17 : K.lookup f17 = some ⟨oc17, od17, .func (PySem.W.fnOf "_look_word" "_look_word" (defArgs s__look_word) (defBody s__look_word) (defScope s__look_word) .none kV17 dc17 pm17 an17 cd17 ct17), sl17⟩)
    (c17 : PySem.W.codeIn K cd17 "_look_word" = true)
    (k17 : PySem.W.keepIn K (.ref f17) = true)
    (a18 : PySem.W.nsIn K mainGlobals "format_receiver" = some (some (.ref f18)))
    (l18 : K.lookup f18 = some ⟨oc18, od18, .func (PySem.W.fnOf "format_receiver" "format_receiver" (defArgs s_format_receiver) (defBody s_format_receiver) (defScope s_format_receiver) .none kV18 dc18 pm18 an18 cd18 ct18), sl18⟩)
    (c18 : PySem.W.codeIn K cd18 "format_receiver" = true)
    (k18 : PySem.W.keepIn K (.ref f18) = true)
    (a19 : PySem.W.nsIn K mainGlobals "format_looks" = some (some (.ref f19)))
    (l19 : K.lookup f19 = some ⟨oc19, od19, .func (PySem.W.fnOf "format_looks" "format_looks" (defArgs s_format_looks) (defBody s_format_looks) (defScope s_format_looks) .none kV19 dc19 pm19 an19 cd19 ct19), sl19⟩)
    (c19 : PySem.W.codeIn K cd19 "format_looks" = true)
    (k19 : PySem.W.keepIn K (.ref f19) = true)
    (a20 : PySem.W.nsIn K mainGlobals "_law_radios" = some (some (.ref f20)))
    (l20 : K.lookup f20 = some ⟨oc20, od20, .func (PySem.W.fnOf "_law_radios" "_law_radios" (defArgs s__law_radios) (defBody s__law_radios) (defScope s__law_radios) .none kV20 dc20 pm20 an20 cd20 ct20), sl20⟩)
    (c20 : PySem.W.codeIn K cd20 "_law_radios" = true)
    (k20 : PySem.W.keepIn K (.ref f20) = true)
    (a21 : PySem.W.nsIn K mainGlobals "_law_all_looks" = some (some (.ref f21)))
    (l21 : K.lookup f21 = some ⟨oc21, od21, .func (PySem.W.fnOf "_law_all_looks" "_law_all_looks" (defArgs s__law_all_looks) (defBody s__law_all_looks) (defScope s__law_all_looks) .none kV21 dc21 pm21 an21 cd21 ct21), sl21⟩)
    (c21 : PySem.W.codeIn K cd21 "_law_all_looks" = true)
    (k21 : PySem.W.keepIn K (.ref f21) = true)
    (a22 : PySem.W.nsIn K mainGlobals "law" = some (some (.ref f22)))
    (l22 : K.lookup f22 = some ⟨oc22, od22, .func (PySem.W.fnOf "law" "law" (defArgs s_law) (defBody s_law) (defScope s_law) .none kV22 dc22 pm22 an22 cd22 ct22), sl22⟩)
    (c22 : PySem.W.codeIn K cd22 "law" = true)
    (k22 : PySem.W.keepIn K (.ref f22) = true)
    (z1 : PySem.W.nsIn K mainGlobals "len" = some none)
    (z2 : PySem.W.nsIn K mainGlobals "max" = some none)
    (z3 : PySem.W.nsIn K mainGlobals "abs" = some none)
    (z4 : PySem.W.nsIn K mainGlobals "int" = some none)
    (z5 : PySem.W.nsIn K mainGlobals "range" = some none)
    (z6 : PySem.W.nsIn K mainGlobals "isinstance" = some none)
    (z7 : PySem.W.nsIn K mainGlobals "bool" = some none)
    (z8 : PySem.W.nsIn K mainGlobals "tuple" = some none)
    (z9 : PySem.W.nsIn K mainGlobals "str" = some none)
    (z10 : PySem.W.nsIn K mainGlobals "enumerate" = some none)
    (z11 : PySem.W.nsIn K mainGlobals "min" = some none)
    (z12 : PySem.W.nsIn K mainGlobals "repr" = some none)
    (z13 : PySem.W.nsIn K mainGlobals "super" = some none)
    (z14 : PySem.W.nsIn K mainGlobals "all" = some none)
    (y1 : PySem.W.nsIn K mainGlobals "DIGITS" = some (some (.str "0123456789" t1)))
    (y2 : PySem.W.nsIn K mainGlobals "MOST_DIGITS" = some (some (.int 30 t2)))
    (y3 : PySem.W.nsIn K mainGlobals "MOST_STAGES" = some (some (.int 8 t3)))
    (y4 : PySem.W.nsIn K mainGlobals "MOST_LOOKS" = some (some (.int 6 t4)))
    (y5 : PySem.W.nsIn K mainGlobals "LEAST_RATE" = some (some (.int 2 t5)))
    (g0 : PySem.W.nsIn K mainGlobals "InvalidSyntax" = some (some (.ref C0)))
    (w0 : PySem.W.keepIn K (.ref C0) = true)
    (eb0 : PySem.W.subIn K (.ref C0) (.type "BaseException") = some true)
    (ty0 : PySem.W.typeIn K (.ref C0) = some (.type "type"))
    (ga0 : PySem.W.findIn K (.ref C0) "__getattribute__" = some (some (.builtin "BaseException.__getattribute__")))
    (gg0 : PySem.W.findIn K (.ref C0) "__getattr__" = some none)
    (hd0 : PySem.W.hasDictIn K C0 = true)
    (xL0 : K.lookup C0 = some (excClassObj nm0 qn0 C0 N0 bs0 bm0 true sn0 sub0 ab0 col0 dd0 m0_0 m0_1 m0_2 m0_3 m0_5 "ValueError.__new__"))
    (rv0 : PySem.HandSPX.refsVE bm0 = true)
    (sa0 : PySem.W.findIn K (.ref C0) "__setattr__" = some (some (.builtin "object.__setattr__")))
    (no0 : PySem.W.findIn K (.ref C0) "word" = some none)
    (iC0 : PySem.W.findIn K (.ref C0) "__init__" = some (some (.ref i0)))
    (tC0 : PySem.W.typeIn K (.ref i0) = some (.type "function"))
    (ve0 : PySem.W.subIn K (.ref C0) (.type "ValueError") = some true)
    (me0 : PySem.W.mroIn K C0 (.ref C0) = some true)
    (te0 : PySem.W.exmOne K (.ref C0) (.ref C0) = some true)
    (su0 : PySem.W.ks_superIn K C0 C0 "__init__" = some (some (.builtin "ValueError.__init__")))
    (li0 : K.lookup i0 = some ⟨eoc0, eod0, .func (PySem.W.fnX "__init__" q0 (SupX.iA "word" p1_0 p2_0) (SupX.iB "word" msg0 a1_0 a2_0 a3_0 a4_0 a5_0 a6_0 q1_0 q2_0 q3_0 q4_0) (SupX.iS "word") [("__class__", u0)] .none .none edc0 epm0 ean0 (.ref v0) ect0), esl0⟩)
    (ci0 : PySem.W.codeIn K (.ref v0) q0 = true)
    (lu0 : K.lookup u0 = some ⟨cl0, cld0, .cell (some (.ref C0)), csl0⟩)
    (lv0 : K.lookup v0 = some ⟨dl0, dld0, .fields vs0, dsl0⟩)
    (vv0 : vs0[2]? = some (.str file0 tf0))
    (fi0 : ((P.main.file : Str) == file0) = true)
    (hl0 : (a3_0.endLine == a5_0.line) = true)
    (op : PySem.W.nsIn K cStatics "thirdparty.any" = some none)
    (tp : (P.main.scope.names.lookup ("super" : Str)).isSome = false) :
    ∃ fd : FuncData, (∀ (s : Shared) (v : Value), BindsTo s fd ⟨[v], []⟩ [("script", v)]) ∧ ∀ base : Heap, K.In base → base.Ns mainGlobals mg → FnG P w K mg base CX0 7 fa fd ["script"] (spLaw K) := by
  have e := hfa.symm.trans (PySem.W.mg_of X G a22)
  cases e
  have m_len := PySem.W.mg_none_of X G z1
  have m_max := PySem.W.mg_none_of X G z2
  have m_abs := PySem.W.mg_none_of X G z3
  have m_int := PySem.W.mg_none_of X G z4
  have m_range := PySem.W.mg_none_of X G z5
  have m_isinstance := PySem.W.mg_none_of X G z6
  have m_bool := PySem.W.mg_none_of X G z7
  have m_tuple := PySem.W.mg_none_of X G z8
  have m_str := PySem.W.mg_none_of X G z9
  have m_enumerate := PySem.W.mg_none_of X G z10
  have m_min := PySem.W.mg_none_of X G z11
  have m_repr := PySem.W.mg_none_of X G z12
  have m_super := PySem.W.mg_none_of X G z13
  have m_all := PySem.W.mg_none_of X G z14
  have g_DIGITS := PySem.W.mg_of X G y1
  have g_MOST_DIGITS := PySem.W.mg_of X G y2
  have g_MOST_STAGES := PySem.W.mg_of X G y3
  have g_MOST_LOOKS := PySem.W.mg_of X G y4
  have g_LEAST_RATE := PySem.W.mg_of X G y5
  have g_InvalidSyntax := PySem.W.mg_of X G g0
  have T_InvalidSyntax : SupX.ErrTxt P K mg "InvalidSyntax" "word" C0 i0 := { okf := .inr rfl, gC := PySem.W.mg_of X G g0, cls := ⟨_, _, _, _, _, _, _, _, _, _, _, _, _, _, _, xL0, rv0⟩, sa := sa0, ga := ga0, gg := gg0, noN := no0, iC := iC0, tC := tC0, kC := w0, exC := eb0, veC := ve0, meC := me0, tyC := ty0, hdC := hd0, te := te0, sup := su0, op := op, gs := m_super, top := tp, fn := ⟨_, _, _, _, _, _, .none, _, _, _, _, _, _, _, _, _, _, _, _, _, _, _, _, _, _, _, _, _, _, _, _, _, _, li0, ci0, lu0, lv0, vv0, fi0, hl0⟩ }
  refine ⟨PySem.W.fnOf "law" "law" (defArgs s_law) (defBody s_law) (defScope s_law) .none kV22 dc22 pm22 an22 cd22 ct22, fun s v => .of_eq rfl, fun base _ _ => ?_⟩
  have F1 := fun_mk (st := s_is_integer) l1 c1 k1
  have h_is_integer : Has P w K mg base 1 "is_integer" (spLook isInt) := ⟨f1, _, ["value"], ok_is_integer (P := P) (w := w) (mg := mg) (base := base) F1 (m_isinstance := m_isinstance) (m_int := m_int) (m_bool := m_bool), PySem.W.mg_of X G a1, k1, F1.binds (ps := ["value"]) fun _ _ _ _ _ _ us hl => match us, hl with | [_], _ => rfl⟩
  have F2 := fun_mk (st := s_is_natural) l2 c2 k2
  have h_is_natural : Has P w K mg base 2 "is_natural" (spLook isNat) := ⟨f2, _, ["value"], ok_is_natural (P := P) (w := w) (mg := mg) (base := base) F2 (h_is_integer := h_is_integer), PySem.W.mg_of X G a2, k2, F2.binds (ps := ["value"]) fun _ _ _ _ _ _ us hl => match us, hl with | [_], _ => rfl⟩
  have F3 := fun_mk (st := s_is_band) l3 c3 k3
  have h_is_band : Has P w K mg base 3 "is_band" (spLook isBand) := ⟨f3, _, ["value"], ok_is_band (P := P) (w := w) (mg := mg) (base := base) F3 (m_isinstance := m_isinstance) (m_tuple := m_tuple) (m_len := m_len) (h_is_natural := h_is_natural), PySem.W.mg_of X G a3, k3, F3.binds (ps := ["value"]) fun _ _ _ _ _ _ us hl => match us, hl with | [_], _ => rfl⟩
  have F4 := fun_mk (st := s_is_rate) l4 c4 k4
  have h_is_rate : Has P w K mg base 2 "is_rate" (spLook isRate) := ⟨f4, _, ["value"], ok_is_rate (P := P) (w := w) (mg := mg) (base := base) F4 (g_LEAST_RATE := g_LEAST_RATE) (h_is_integer := h_is_integer), PySem.W.mg_of X G a4, k4, F4.binds (ps := ["value"]) fun _ _ _ _ _ _ us hl => match us, hl with | [_], _ => rfl⟩
  have F5 := fun_mk (st := s_read_number) l5 c5 k5
  have h_read_number : Has P w K mg base 1 "read_number" (spNum readN) := ⟨f5, _, ["word"], ok_read_number (P := P) (w := w) (mg := mg) (base := base) F5 (m_len := m_len) (m_all := m_all) (m_int := m_int) (g_DIGITS := g_DIGITS) (g_MOST_DIGITS := g_MOST_DIGITS), PySem.W.mg_of X G a5, k5, F5.binds (ps := ["word"]) fun _ _ _ _ _ _ us hl => match us, hl with | [_], _ => rfl⟩
  have F6 := fun_mk (st := s_read_natural) l6 c6 k6
  have h_read_natural : Has P w K mg base 2 "read_natural" (spNum natN) := ⟨f6, _, ["word"], ok_read_natural (P := P) (w := w) (mg := mg) (base := base) F6 (h_read_number := h_read_number), PySem.W.mg_of X G a6, k6, F6.binds (ps := ["word"]) fun _ _ _ _ _ _ us hl => match us, hl with | [_], _ => rfl⟩
  have F7 := fun_mk (st := s_read_band) l7 c7 k7
  have h_read_band : Has P w K mg base 4 "read_band" spBandN := ⟨f7, _, ["word"], ok_read_band (P := P) (w := w) (mg := mg) (base := base) F7 (h_read_natural := h_read_natural) (h_is_band := h_is_band), PySem.W.mg_of X G a7, k7, F7.binds (ps := ["word"]) fun _ _ _ _ _ _ us hl => match us, hl with | [_], _ => rfl⟩
  have F8 := fun_mk (st := s__read_stage) l8 c8 k8
  have h__read_stage : Has P w K mg base 5 "_read_stage" spStgN := ⟨f8, _, ["word"], ok_read_stage (P := P) (w := w) (mg := mg) (base := base) F8 (h_read_number := h_read_number) (h_read_natural := h_read_natural) (h_read_band := h_read_band), PySem.W.mg_of X G a8, k8, F8.binds (ps := ["word"]) fun _ _ _ _ _ _ us hl => match us, hl with | [_], _ => rfl⟩
  have F9 := fun_mk (st := s__read_rate) l9 c9 k9
  have h__read_rate : Has P w K mg base 3 "_read_rate" (spNum rateN) := ⟨f9, _, ["word"], ok_read_rate (P := P) (w := w) (mg := mg) (base := base) F9 (h_read_natural := h_read_natural) (h_is_rate := h_is_rate), PySem.W.mg_of X G a9, k9, F9.binds (ps := ["word"]) fun _ _ _ _ _ _ us hl => match us, hl with | [_], _ => rfl⟩
  have F10 := fun_mk (st := s__read_look) l10 c10 k10
  have h__read_look : Has P w K mg base 5 "_read_look" spLkN := ⟨f10, _, ["word"], ok_read_look (P := P) (w := w) (mg := mg) (base := base) F10 (h_read_number := h_read_number) (h_read_band := h_read_band), PySem.W.mg_of X G a10, k10, F10.binds (ps := ["word"]) fun _ _ _ _ _ _ us hl => match us, hl with | [_], _ => rfl⟩
  have F11 := fun_mk (st := s_dial_place) l11 c11 k11
  have h_dial_place : Has P w K mg base 1 "dial_place" spDialAt := ⟨f11, _, ["stages"], ok_dial_place (P := P) (w := w) (mg := mg) (base := base) F11 (m_enumerate := m_enumerate), PySem.W.mg_of X G a11, k11, F11.binds (ps := ["stages"]) fun _ _ _ _ _ _ us hl => match us, hl with | [_], _ => rfl⟩
  have F12 := fun_mk (st := s__may_follow) l12 c12 k12
  have h__may_follow : Has P w K mg base 2 "_may_follow" spMayF := ⟨f12, _, ["stages", "stage"], ok_may_follow (P := P) (w := w) (mg := mg) (base := base) F12 (m_len := m_len) (g_MOST_STAGES := g_MOST_STAGES) (h_dial_place := h_dial_place), PySem.W.mg_of X G a12, k12, F12.binds (ps := ["stages", "stage"]) fun _ _ _ _ _ _ us hl => match us, hl with | [_, _], _ => rfl⟩
  have F13 := fun_mk (st := s__words_of) l13 c13 k13
  have h__words_of : HasX P w K mg base 1 "_words_of" (spWords C0) := ⟨f13, _, ["text"], ok_words_of (P := P) (w := w) (mg := mg) (base := base) F13 (T_InvalidSyntax := T_InvalidSyntax) (m_isinstance := m_isinstance) (m_str := m_str), PySem.W.mg_of X G a13, k13, F13.binds (ps := ["text"]) fun _ _ _ _ _ _ us hl => match us, hl with | [_], _ => rfl⟩
  have F14 := fun_mk (st := s_parse_receiver) l14 c14 k14
  have h_parse_receiver : HasX P w K mg base 6 "parse_receiver" (spParR C0) := ⟨f14, _, ["text"], ok_parse_receiver (P := P) (w := w) (mg := mg) (base := base) F14 (T_InvalidSyntax := T_InvalidSyntax) (m_enumerate := m_enumerate) (h__words_of := h__words_of) (h__read_stage := h__read_stage) (h__may_follow := h__may_follow) (h__read_rate := h__read_rate), PySem.W.mg_of X G a14, k14, F14.binds (ps := ["text"]) fun _ _ _ _ _ _ us hl => match us, hl with | [_], _ => rfl⟩
  have h_parse_receiver_kw : HasKX P w K mg base 6 "parse_receiver" ["text"] (fun ws => ws) (fun zs => zs) (spParR C0) := ⟨f14, _, ["text"], ok_parse_receiver (P := P) (w := w) (mg := mg) (base := base) F14 (T_InvalidSyntax := T_InvalidSyntax) (m_enumerate := m_enumerate) (h__words_of := h__words_of) (h__read_stage := h__read_stage) (h__may_follow := h__may_follow) (h__read_rate := h__read_rate), PySem.W.mg_of X G a14, k14, ⟨fun s us ws _ q1 q2 => match us, ws, q1, q2 with | [], [_], _, _ => .of_eq rfl, fun _ r2 => r2⟩⟩
  have F15 := fun_mk (st := s_parse_looks) l15 c15 k15
  have h_parse_looks : HasX P w K mg base 6 "parse_looks" (spParL C0) := ⟨f15, _, ["text"], ok_parse_looks (P := P) (w := w) (mg := mg) (base := base) F15 (T_InvalidSyntax := T_InvalidSyntax) (m_enumerate := m_enumerate) (m_len := m_len) (g_MOST_LOOKS := g_MOST_LOOKS) (h__words_of := h__words_of) (h__read_look := h__read_look), PySem.W.mg_of X G a15, k15, F15.binds (ps := ["text"]) fun _ _ _ _ _ _ us hl => match us, hl with | [_], _ => rfl⟩
  have h_parse_looks_kw : HasKX P w K mg base 6 "parse_looks" ["text"] (fun ws => ws) (fun zs => zs) (spParL C0) := ⟨f15, _, ["text"], ok_parse_looks (P := P) (w := w) (mg := mg) (base := base) F15 (T_InvalidSyntax := T_InvalidSyntax) (m_enumerate := m_enumerate) (m_len := m_len) (g_MOST_LOOKS := g_MOST_LOOKS) (h__words_of := h__words_of) (h__read_look := h__read_look), PySem.W.mg_of X G a15, k15, ⟨fun s us ws _ q1 q2 => match us, ws, q1, q2 with | [], [_], _, _ => .of_eq rfl, fun _ r2 => r2⟩⟩
  have F16 := fun_mk (st := s__stage_word) l16 c16 k16
  have h__stage_word : Has P w K mg base 1 "_stage_word" spStgW := ⟨f16, _, ["stage"], ok_stage_word (P := P) (w := w) (mg := mg) (base := base) F16 , PySem.W.mg_of X G a16, k16, F16.binds (ps := ["stage"]) fun _ _ _ _ _ _ us hl => match us, hl with | [_], _ => rfl⟩
  have F17 := fun_mk (st := s__look_word) l17 c17 k17
  have h__look_word : Has P w K mg base 1 "_look_word" spLkW := ⟨f17, _, ["look"], ok_look_word (P := P) (w := w) (mg := mg) (base := base) F17 , PySem.W.mg_of X G a17, k17, F17.binds (ps := ["look"]) fun _ _ _ _ _ _ us hl => match us, hl with | [_], _ => rfl⟩
  have F18 := fun_mk (st := s_format_receiver) l18 c18 k18
  have h_format_receiver : Has P w K mg base 2 "format_receiver" spSetT := ⟨f18, _, ["receiver"], ok_format_receiver (P := P) (w := w) (mg := mg) (base := base) F18 (h__stage_word := h__stage_word), PySem.W.mg_of X G a18, k18, F18.binds (ps := ["receiver"]) fun _ _ _ _ _ _ us hl => match us, hl with | [_], _ => rfl⟩
  have h_format_receiver_kw : HasK P w K mg base 2 "format_receiver" ["receiver"] (fun ws => ws) (fun zs => zs) spSetT := ⟨f18, _, ["receiver"], ok_format_receiver (P := P) (w := w) (mg := mg) (base := base) F18 (h__stage_word := h__stage_word), PySem.W.mg_of X G a18, k18, ⟨fun s us ws _ q1 q2 => match us, ws, q1, q2 with | [], [_], _, _ => .of_eq rfl, fun _ r2 => r2⟩⟩
  have F19 := fun_mk (st := s_format_looks) l19 c19 k19
  have h_format_looks : Has P w K mg base 2 "format_looks" spLooksT := ⟨f19, _, ["looks"], ok_format_looks (P := P) (w := w) (mg := mg) (base := base) F19 (h__look_word := h__look_word), PySem.W.mg_of X G a19, k19, F19.binds (ps := ["looks"]) fun _ _ _ _ _ _ us hl => match us, hl with | [_], _ => rfl⟩
  have h_format_looks_kw : HasK P w K mg base 2 "format_looks" ["looks"] (fun ws => ws) (fun zs => zs) spLooksT := ⟨f19, _, ["looks"], ok_format_looks (P := P) (w := w) (mg := mg) (base := base) F19 (h__look_word := h__look_word), PySem.W.mg_of X G a19, k19, ⟨fun s us ws _ q1 q2 => match us, ws, q1, q2 with | [], [_], _, _ => .of_eq rfl, fun _ r2 => r2⟩⟩
  have F20 := fun_mk (st := s__law_radios) l20 c20 k20
  have h__law_radios : Has P w K mg base 1 "_law_radios" spRadios := ⟨f20, _, [], ok_law_radios (P := P) (w := w) (mg := mg) (base := base) F20 , PySem.W.mg_of X G a20, k20, F20.binds (ps := []) fun _ _ _ _ _ _ us hl => match us, hl with | [], _ => rfl⟩
  have F21 := fun_mk (st := s__law_all_looks) l21 c21 k21
  have h__law_all_looks : Has P w K mg base 1 "_law_all_looks" spAllL := ⟨f21, _, [], ok_law_all_looks (P := P) (w := w) (mg := mg) (base := base) F21 , PySem.W.mg_of X G a21, k21, F21.binds (ps := []) fun _ _ _ _ _ _ us hl => match us, hl with | [], _ => rfl⟩
  have F22 := fun_mk (st := s_law) l22 c22 k22
  exact ok_law (P := P) (w := w) (mg := mg) (base := base) F22 (m_repr := m_repr) (h__law_radios := h__law_radios) (h__law_all_looks := h__law_all_looks) (h_format_receiver := h_format_receiver) (h_format_looks := h_format_looks) (h_format_receiver_kw := h_format_receiver_kw) (h_format_looks_kw := h_format_looks_kw) (h_parse_receiver_kw := h_parse_receiver_kw) (h_parse_looks_kw := h_parse_looks_kw) (h_parse_receiver := h_parse_receiver) (h_parse_looks := h_parse_looks)
theorem walk {l : PySem.W.OpenLaw} {q : Program} {loose : List Str} {XP : (Str → Option Value) → Heap → Prop} {YP : World → Heap → Prop} {d : DefRec} {K : Params → PySem.W.Frag} (hn : l.most = some 63) (hdf : d.params.defaults = [])
    (hY : ∀ (w : World) (h : Heap), YP w h → (K w.params).In h)
    (F : ∀ (w : World) (mg : Str → Option Value) (fa : Addr) (h : Heap), (K w.params).In h → h.Ns mainGlobals mg → mg d.name = some (.ref fa) →
      ∃ fd : FuncData, (∀ (s : Shared) (u : Value), BindsTo s fd ⟨[u], []⟩ [("script", u)]) ∧ ∀ base : Heap, (K w.params).In base → base.Ns mainGlobals mg → FnG l.prog w (K w.params) mg base CX0 7 fa fd ["script"] (spLaw (K w.params))) :
    PySem.W.WalkO q loose XP YP l.row.toRowW d [] (fun f vs => PySem.call f vs) :=
  walk_G (n := 63) (k := 7) (x := "script") (sp := fun K => spLaw K) hn (by decide) hdf ⟨rfl, by decide, by decide⟩ hY F (fun _ _ a ns hl _ hS => ⟨a, ns, rfl, Nat.le_trans hl (by decide), hS, fun _ => rfl⟩)
end Kx

open PySem PySem.W PyProof.Rows
set_option maxRecDepth 100000 in
set_option maxHeartbeats 0 in
theorem PySem.Challenge.cw_imagetones_k49_written_texts_holds : PySem.Challenge.rw_imagetones_k49_written_texts.Holds := by
  w_on; o_law; k_head; (case hw => w_witness2)
  k_fill
  refine Kx.walk (l := PySem.Challenge.rw_imagetones_k49_written_texts) rfl rfl (fun w h Y => PySem.W.kIn_of Y) ?F
  case F =>
    intro w mg fa h KX G hmg
    refine' Kx.all_mk KX G hmg ?hXa1 ?hXl1 ?hXc1 ?hXk1 ?hXa2 ?hXl2 ?hXc2 ?hXk2 ?hXa3 ?hXl3 ?hXc3 ?hXk3 ?hXa4 ?hXl4 ?hXc4 ?hXk4 ?hXa5 ?hXl5 ?hXc5 ?hXk5 ?hXa6 ?hXl6 ?hXc6 ?hXk6 ?hXa7 ?hXl7 ?hXc7 ?hXk7 ?hXa8 ?hXl8 ?hXc8 ?hXk8 ?hXa9 ?hXl9 ?hXc9 ?hXk9 ?hXa10 ?hXl10 ?hXc10 ?hXk10 ?hXa11 ?hXl11 ?hXc11 ?hXk11 ?hXa12 ?hXl12 ?hXc12 ?hXk12 ?hXa13 ?hXl13 ?hXc13 ?hXk13 ?hXa14 ?hXl14 ?hXc14 ?hXk14 ?hXa15 ?hXl15 ?hXc15 ?hXk15 ?hXa16 ?hXl16 ?hXc16 ?hXk16 ?hXa17 ?hXl17 ?hXc17 ?hXk17 ?hXa18 ?hXl18 ?hXc18 ?hXk18 ?hXa19 ?hXl19 ?hXc19 ?hXk19 ?hXa20 ?hXl20 ?hXc20 ?hXk20 ?hXa21 ?hXl21 ?hXc21 ?hXk21 ?hXa22 ?hXl22 ?hXc22 ?hXk22 ?hXz1 ?hXz2 ?hXz3 ?hXz4 ?hXz5 ?hXz6 ?hXz7 ?hXz8 ?hXz9 ?hXz10 ?hXz11 ?hXz12 ?hXz13 ?hXz14 ?hXy1 ?hXy2 ?hXy3 ?hXy4 ?hXy5 ?hXg0 ?hXw0 ?hXeb0 ?hXty0 ?hXga0 ?hXgg0 ?hXhd0 ?hXxL0 ?hXrv0 ?hXsa0 ?hXno0 ?hXiC0 ?hXtC0 ?hXve0 ?hXme0 ?hXte0 ?hXsu0 ?hXli0 ?hXci0 ?hXlu0 ?hXlv0 ?hXvv0 ?hXfi0 ?hXhl0 ?hXop ?hXtp
    (case hXa1 => k_is)
    (case hXl1 => k_is)
    (case hXc1 => k_is)
    (case hXk1 => k_is)
    (case hXa2 => k_is)
    (case hXl2 => k_is)
    (case hXc2 => k_is)
    (case hXk2 => k_is)
    (case hXa3 => k_is)
    (case hXl3 => k_is)
    (case hXc3 => k_is)
    (case hXk3 => k_is)
    (case hXa4 => k_is)
    (case hXl4 => k_is)
    (case hXc4 => k_is)
    (case hXk4 => k_is)
    (case hXa5 => k_is)
    (case hXl5 => k_is)
    (case hXc5 => k_is)
    (case hXk5 => k_is)
    (case hXa6 => k_is)
    (case hXl6 => k_is)
    (case hXc6 => k_is)
    (case hXk6 => k_is)
    (case hXa7 => k_is)
    (case hXl7 => k_is)
    (case hXc7 => k_is)
    (case hXk7 => k_is)
    (case hXa8 => k_is)
    (case hXl8 => k_is)
    (case hXc8 => k_is)
    (case hXk8 => k_is)
    (case hXa9 => k_is)
    (case hXl9 => k_is)
    (case hXc9 => k_is)
    (case hXk9 => k_is)
    (case hXa10 => k_is)
    (case hXl10 => k_is)
    (case hXc10 => k_is)
    (case hXk10 => k_is)
    (case hXa11 => k_is)
    (case hXl11 => k_is)
    (case hXc11 => k_is)
    (case hXk11 => k_is)
    (case hXa12 => k_is)
    (case hXl12 => k_is)
    (case hXc12 => k_is)
    (case hXk12 => k_is)
    (case hXa13 => k_is)
    (case hXl13 => k_is)
    (case hXc13 => k_is)
    (case hXk13 => k_is)
    (case hXa14 => k_is)
    (case hXl14 => k_is)
    (case hXc14 => k_is)
    (case hXk14 => k_is)
    (case hXa15 => k_is)
    (case hXl15 => k_is)
    (case hXc15 => k_is)
    (case hXk15 => k_is)
    (case hXa16 => k_is)
    (case hXl16 => k_is)
    (case hXc16 => k_is)
    (case hXk16 => k_is)
    (case hXa17 => k_is)
    (case hXl17 => k_is)
    (case hXc17 => k_is)
    (case hXk17 => k_is)
    (case hXa18 => k_is)
    (case hXl18 => k_is)
    (case hXc18 => k_is)
    (case hXk18 => k_is)
    (case hXa19 => k_is)
    (case hXl19 => k_is)
    (case hXc19 => k_is)
    (case hXk19 => k_is)
    (case hXa20 => k_is)
    (case hXl20 => k_is)
    (case hXc20 => k_is)
    (case hXk20 => k_is)
    (case hXa21 => k_is)
    (case hXl21 => k_is)
    (case hXc21 => k_is)
    (case hXk21 => k_is)
    (case hXa22 => k_is)
    (case hXl22 => k_is)
    (case hXc22 => k_is)
    (case hXk22 => k_is)
    (case hXz1 => k_is)
    (case hXz2 => k_is)
    (case hXz3 => k_is)
    (case hXz4 => k_is)
    (case hXz5 => k_is)
    (case hXz6 => k_is)
    (case hXz7 => k_is)
    (case hXz8 => k_is)
    (case hXz9 => k_is)
    (case hXz10 => k_is)
    (case hXz11 => k_is)
    (case hXz12 => k_is)
    (case hXz13 => k_is)
    (case hXz14 => k_is)
    (case hXy1 => k_is)
    (case hXy2 => k_is)
    (case hXy3 => k_is)
    (case hXy4 => k_is)
    (case hXy5 => k_is)
    (case hXg0 => k_is)
    (case hXw0 => k_is)
    (case hXeb0 => k_is)
    (case hXty0 => k_is)
    (case hXga0 => k_is)
    (case hXgg0 => k_is)
    (case hXhd0 => k_is)
    (case hXxL0 => k_is)
    (case hXrv0 => first | rfl | decide +kernel)
    (case hXsa0 => k_is)
    (case hXno0 => k_is)
    (case hXiC0 => k_is)
    (case hXtC0 => k_is)
    (case hXve0 => k_is)
    (case hXme0 => k_is)
    (case hXte0 => kernel_rfl)
    (case hXsu0 => kernel_rfl)
    (case hXli0 => k_is)
    (case hXci0 => k_is)
    (case hXlu0 => k_is)
    (case hXlv0 => k_is)
    (case hXvv0 => rfl)
    (case hXfi0 => first | rfl | decide +kernel)
    (case hXhl0 => rfl)
    (case hXop => k_is)
    (case hXtp => first | rfl | decide +kernel)
