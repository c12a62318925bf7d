import PyProof.Rows.All
import Wide.All
import OpenK.AllK
import Wide.FinOn
import HandS.ForMost
import HandS.Evl
import HandS.Steps
import HandS.Wide
import HandS.IsInst
import HandS.Exc
import HandS.ExcOwn
import HandS.TryOnly
import HandS.WordsExc
import HandS.Defaults
import HandS.ExcSuper
import PyProof.ReprRoads
import KE.KExcSuper
import KE.KSuper
import HandS.TryMany
import HandS.ExcIs
import KE.KExcIs
import HandS.ExcCtx
import HandS.HotCalls
import PyProof.Rows.TupIter
import PyProof.Rows.TupAssign
import PyProof.ReprLen
import PyProof.LongRange
import HandS.WideBits
import HandS.SortRule
import HandS.List
import HandS.FStr
import HandS.Style
import KE.DatumOrd
import HandS.SortKw
import PySem.Challenge.RW_imagetones_k30_stops_step_by_step
set_option Elab.async false
set_option linter.all false
set_option maxRecDepth 100000
namespace HX
open PySem PySem.Spec PyProof.Rows L2

/-! ### defs whose callers are known to be no repr of anything (so repr's own guard is silent) -/
structure FnG (P : Program) (w : World) (K : PySem.W.Frag) (mg : Str → Option Value) (base : Heap) (CX : CXT) (k : Nat) (f : Addr) (fd : FuncData) (ps : List Str) (sp : Sp) : Prop where
  len : ∀ vs H Q E, sp vs H Q E → vs.length = ps.length
  run : ∀ (A : Around) (outer : List Env) (s : Shared) (H : Hp) (args : Args) (us : List Value) (vs : List V) (Q : VK) (E : XK),
    A.guards = some [] → Room k A → Env0 P w K mg base A outer s H → BindsTo s fd args (ps.zip us) → Vals vs us → sp vs H Q E →
      codeAny (model P w) A (.call (.ref f) args) (CR CX outer P w H s Q E) s

section
variable {P : Program} {w : World} {K : PySem.W.Frag} {mg : Str → Option Value} {base : Heap} {CX : CXT} {k j : Nat} {f : Addr} {fd : FuncData} {ps : List Str} {sp : Sp}
theorem FnG.of (F : FnOk P w K mg base CX k f fd ps sp) : FnG P w K mg base CX k f fd ps sp :=
  ⟨F.len, fun A outer s H args us vs Q E _ => F.run A outer s H args us vs Q E⟩
theorem FnG.mono (F : FnG P w K mg base CX j f fd ps sp) (h : j ≤ k) : FnG P w K mg base CX k f fd ps sp :=
  ⟨F.len, fun A outer s H args us vs Q E g r => F.run A outer s H args us vs Q E g (r.mono h)⟩

theorem okG {x qual : Str} {st : Stmt} {N : List Str} (F : Fun K x qual st f fd) (S : FnScope N ps (defScope st)) (len : ∀ vs H Q E, sp vs H Q E → vs.length = ps.length)
    (hbody : ∀ (cdv : Value) (A : Around) (outer : List Env) (s : Shared) (H : Hp) (vs : List V) (Q : VK) (E : XK), A.guards = some [] →
      Room k (A.deeper (envOfC qual (defScope st) s.heap.objs.size f cdv)) → sp vs H Q E →
      ∃ t, PSs (cxOf CX P w K mg base N qual (defScope st) f cdv A outer s H E) (defBody st) t ∧ t { nx := fun _ H' => Q .non H', rt := Q } (start N vs) H) :
    FnG P w K mg base CX (k + 1) f fd ps sp := by
  obtain ⟨oc, od, kV, doc, pm, an, cdv, ct, osl, rfl, lk, hcd⟩ := F.ex
  constructor
  · exact len
  intro A outer s H args us vs Q E hgd hr e0 hb r hsp
  have hl := len _ _ _ _ hsp
  have kept : ∀ b o, base.get? b = some o → s.heap.get? b = some o := fun b o e => (e0.bs b o e).1
  have KX : K.In s.heap := e0.mod.kin.keeps kept
  have lim : s.heap.NoLimit := e0.mod.nolimit.keeps kept
  have hkind : ∀ y ∈ ps.zip us, (defScope st).names.lookup y.1 = some .local ∨
      ((defScope st).names.lookup y.1 = some .cell ∧ ((cellsFrom (s.heap.objs.size + 1) (defScope st).names []).lookup y.1).isSome = true) := by
    rintro ⟨n, v⟩ hy
    rcases S.par n (List.of_mem_zip hy).1 with q | q
    · exact .inl q
    · exact .inr ⟨q, PySem.W.cellsFrom_some _ _ _ (.inl q)⟩
  apply codeAny_call_function hr.depth (KX _ _ lk) rfl S.co S.gen rfl (PySem.W.codeRec_of KX hcd)
  apply hb
  refine wpAny_newFunctionEnv_cells S.kind hkind fun env he s1 x => ?_
  subst he
  refine ⟨lim.keeps x.toInCall.keep, codeAny_func ?_⟩
  obtain ⟨t, ht, hq⟩ := hbody cdv A outer s H vs Q E hgd (hr.deeper _) hsp
  have I := inv_start (CX := CX) (E := E) S hr.hd e0 hl r x
  refine wpAny_mono (ht.run [] s1 (start N vs) H _ I hq) (fun fl s' hs => ?_) fun e s' hs => hs
  cases fl with
  | ret u => obtain ⟨v, σ', H', J, rv, q⟩ := hs; exact ⟨v, H', J.os, J.bare, J.base, J.hok, rv, q⟩
  | next => obtain ⟨σ', H', J, q⟩ := hs; exact ⟨V.non, H', J.os, J.bare, J.base, J.hok, rfl, q⟩
  | brk => obtain ⟨_, _, _, q⟩ := hs; exact q.elim
  | cont => obtain ⟨_, _, _, q⟩ := hs; exact q.elim
end

section
variable {X : Cx} {CX : CXT} {k : Nat} {f : Addr} {fd : FuncData} {ps : List Str} {sp : Sp} {dvs : List V} {ds : List Value} {E : XK} {x : Str} {p pos : Pos} {e : Expr} {es : List Expr} {t : TA}
theorem run_g {pins : List (Addr × Obj)} {σ : L2.St} {H : Hp} {s : Shared} {Q : VK} {us : List Value} {vs : List V} (F : FnG X.prog X.w X.K X.mg X.base CX k f fd ps sp) (hgd : X.A.guards = some []) (hr : Room k X.A)
    (hb : Binds X.K fd ps ds) (hd : Vals dvs ds) (hx : Passes CX X E) (I : Inv X pins σ H s) (r : Vals vs us) (h : sp (vs ++ dvs) H Q E) :
    wpAny (model X.prog X.w) X.A (call (.ref f) us) (EP X pins σ Q) X.xe s := by
  have r2 : Vals (vs ++ dvs) (us ++ ds) := r.append hd
  have hl : (us ++ ds).length = ps.length := r2.length.symm.trans (F.len _ _ _ _ h)
  apply wpAny_call
  refine codeAny_mono (F.run X.A X.stack s H ⟨us, []⟩ (us ++ ds) (vs ++ dvs) Q E hgd hr I.env0 (hb s us I.kIn hl) r2 h) ?_
  intro r s' hq
  match r, hq with
  | .error e, hq => exact hx pins σ H s e s' I hq
  | .ok (.ret u), hq => exact I.after hq

/-- f(e, ..) of such a def -/
theorem pe_callG (F : FnG X.prog X.w X.K X.mg X.base CX k f fd ps sp) (hgd : X.A.guards = some []) (hr : Room k X.A) (hg : Gl X x) (hm : X.mg x = some (.ref f)) (hk : PySem.W.keepIn X.K (.ref f) = true)
    (hb : Binds X.K fd ps ds) (hd : Vals dvs ds) (hx : Passes CX X E) (ha : PA X (e :: es) t) (hdb : (x == ("__debug__" : Str)) = false := by decide)
    (he : starEach (e :: es) X.env = (false, eval e X.env) :: starEach es X.env := by rfl) (hpl : (backTo pos (starEach es X.env)).any (·.1) = false := by rfl) :
    PE X (.Call (.Name x p) (e :: es) [] pos) (tCall sp dvs E t) := by
  constructor
  intro pins s σ H Q I h
  apply wpAny_Call_Name_kw
  refine ld_glob I hg hm ?_ hdb
  refine PySem.W.callWith_K (h₀ := X.base) I.ok.mod.kin hk ?_ he hpl
  refine thn (ha.run pos pins s σ H _ I h) ?_
  rintro us s1 ⟨vs, H1, I1, r, q⟩
  exact ⟨I1.kIn, run_g F hgd hr hb hd hx I1 r q⟩
end

/-! ### numbers -/
section
variable {X : Cx}
/-- ** of a base of at most b bits with a written exponent -/
def CPowW (i j : Int) : Prop := 0 ≤ j ∧ (Builtin.Int.intBits i : Int) * j ≤ 2 ^ 27
theorem op_powW : OpR X (binaryOp .Pow) (rI CPowW fun i j => .int (i ^ j.toNat)) := opI fun _ _ _ _ _ _ _ hc q => PyProof.Rows.pow_int hc.1 hc.2 q
end
theorem wide_pow {i j : Int} {b : Nat} (h : i.natAbs < 2 ^ b) (h0 : 0 ≤ j) (hb : ((b : Int) + 1) * j ≤ 2 ^ 27) : CPowW i j := by
  have hle : Builtin.Int.intBits i ≤ b + 1 := by
    unfold Builtin.Int.intBits
    split
    · omega
    · rename_i hz
      by_cases hb0 : b = 0
      · subst hb0
        have hz0 : i.natAbs = 0 := by simpa using h
        rw [hz0]
        decide
      · have hq : i.natAbs.log2 < b := PySem.Flt.log2_lt_of (Nat.pos_of_ne_zero hb0) h
        omega
  refine ⟨h0, Int.le_trans ?_ hb⟩
  exact Int.mul_le_mul_of_nonneg_right (by omega) h0
end HX

set_option Elab.async false
set_option linter.all false
set_option maxRecDepth 100000
namespace HX
open PySem PySem.Spec PyProof.Rows L2

/-! ### data at any depth that is tracked: none, bools, ints, texts, lists, tuples, the empty dict -/
mutual
inductive Dq (H : Hp) : V → PyData → Prop
  | non : Dq H .non .none
  | bl (b : Bool) : Dq H (.bl b) (.bool b)
  | int (i : Int) : Dq H (.int i) (.int i)
  | str (x : Str) : Dq H (.str x) (.str x)
  | lst {a : Addr} {xs : List V} {ds : List PyData} : Rd H a (.lst xs) → DqAll H xs ds → Dq H (.ref a) (.list ds)
  | tup {a : Addr} {xs : List V} {ds : List PyData} : Rd H a (.tup xs) → DqAll H xs ds → Dq H (.ref a) (.tuple ds)
  | dic {a : Addr} : H a = some (.dK []) → Dq H (.ref a) (.dict [])
inductive DqAll (H : Hp) : List V → List PyData → Prop
  | nil : DqAll H [] []
  | cons {v : V} {vs : List V} {d : PyData} {ds : List PyData} : Dq H v d → DqAll H vs ds → DqAll H (v :: vs) (d :: ds)
end

open Evl (Ex)
mutual
theorem Dq.ex {H H' : Hp} (e : Ex H H') : ∀ {v : V} {d : PyData}, Dq H v d → Dq H' v d
  | _, _, .non => .non
  | _, _, .bl b => .bl b
  | _, _, .int i => .int i
  | _, _, .str x => .str x
  | _, _, .lst h k => .lst (Evl.ex_rd e h) (DqAll.ex e k)
  | _, _, .tup h k => .tup (Evl.ex_rd e h) (DqAll.ex e k)
  | _, _, .dic h => .dic (e _ _ h)
theorem DqAll.ex {H H' : Hp} (e : Ex H H') : ∀ {vs : List V} {ds : List PyData}, DqAll H vs ds → DqAll H' vs ds
  | _, _, .nil => .nil
  | _, _, .cons h k => .cons (Dq.ex e h) (DqAll.ex e k)
end
theorem DqAll.len {H : Hp} : ∀ {vs : List V} {ds : List PyData}, DqAll H vs ds → vs.length = ds.length
  | _, _, .nil => rfl
  | _, _, .cons _ k => congrArg (· + 1) k.len
theorem DqAll.app {H : Hp} : ∀ {vs ws : List V} {ds es : List PyData}, DqAll H vs ds → DqAll H ws es → DqAll H (vs ++ ws) (ds ++ es)
  | _, _, _, _, .nil, k => k
  | _, _, _, _, .cons h t, k => .cons h (t.app k)
theorem DqAll.get {H : Hp} : ∀ {vs : List V} {ds : List PyData} {i : Nat} {v : V}, DqAll H vs ds → vs[i]? = some v → ∃ d, ds[i]? = some d ∧ Dq H v d
  | _, _, _, _, .nil, e => by simp at e
  | _, _, 0, _, .cons h _, e => by simp at e; subst e; exact ⟨_, rfl, h⟩
  | _, _, i + 1, v, .cons _ t, e => by
    obtain ⟨d, h1, h2⟩ := DqAll.get (i := i) (v := v) t (by simpa using e)
    exact ⟨d, by simpa using h1, h2⟩
theorem DqAll.one {H : Hp} {v : V} {d : PyData} (h : Dq H v d) : DqAll H [v] [d] := .cons h .nil
theorem DqAll.rep {H : Hp} {v : V} {d : PyData} (h : Dq H v d) : ∀ n, DqAll H (List.replicate n v) (List.replicate n d)
  | 0 => .nil
  | n + 1 => .cons h (DqAll.rep h n)
theorem DqAll.take {H : Hp} : ∀ {vs : List V} {ds : List PyData} (n : Nat), DqAll H vs ds → DqAll H (vs.take n) (ds.take n)
  | _, _, 0, _ => by simpa using DqAll.nil
  | _, _, _ + 1, .nil => by simpa using DqAll.nil
  | _, _, n + 1, .cons h t => by simpa using DqAll.cons h (t.take n)
theorem DqAll.drop {H : Hp} : ∀ {vs : List V} {ds : List PyData} (n : Nat), DqAll H vs ds → DqAll H (vs.drop n) (ds.drop n)
  | _, _, 0, k => by simpa using k
  | _, _, _ + 1, .nil => by simpa using DqAll.nil
  | _, _, n + 1, .cons h t => by simpa using t.drop n
/-- an object of data is none that changes: what changes is elsewhere -/
theorem dq_ne {H : Hp} {a : Addr} {o u : HO} (h : H a = some o) (k : Rd H a u) (d : o ≠ u) (f : ∀ ob, o ≠ .frz ob u) : False := by
  rcases k with k | ⟨ob, k⟩
  · exact d (Option.some.inj (h.symm.trans k))
  · exact f ob (Option.some.inj (h.symm.trans k))

mutual
theorem Dq.dp {K : PySem.W.Frag} {H : Hp} : ∀ {v : V} {d : PyData}, Dq H v d → d.hasDict = false → Dp K H v d
  | _, _, .non, _ => .non
  | _, _, .bl b, _ => .bl b
  | _, _, .int i, _ => .int i
  | _, _, .str x, _ => .str x
  | _, _, .lst h k, e => .lst (.inl h) (DqAll.dp k (by simpa [PyData.hasDict] using e))
  | _, _, .tup h k, e => .tup (.inl h) (DqAll.dp k (by simpa [PyData.hasDict] using e))
  | _, _, .dic h, e => by simp [PyData.hasDict] at e
theorem DqAll.dp {K : PySem.W.Frag} {H : Hp} : ∀ {vs : List V} {ds : List PyData}, DqAll H vs ds → PyData.hasDictAll ds = false → DpAll K H vs ds
  | _, _, .nil, _ => .nil
  | _, _, .cons h k, e => by
    simp only [PyData.hasDictAll, Bool.or_eq_false_iff] at e
    exact .cons (h.dp e.1) (k.dp e.2)
end

section
variable {X : Cx} {pins : List (Addr × Obj)} {σ : L2.St} {H : Hp} {s : Shared}
/-- an empty dict that is tracked, as the heap has it -/
theorem dic_at (I : Inv X pins σ H s) {a : Addr} (h : H a = some (.dK [])) : ∃ o n, s.heap.get? a = some o ∧ o.cls = .type "dict" ∧ o.data = .dict #[] n ∧ (a == sysModules) = false := by
  obtain ⟨_, hsys, vs, kv, o, es, ep, h1, h2, h3, h4⟩ := (show ObjOk X.prog X.w H s.heap a (.dK []) from I.hok a _ h)
  cases kv
  have he : es.toList = [] := List.length_eq_zero_iff.mp (by simpa using h4.2.1.length)
  have he2 : es = #[] := by cases es; simpa using he
  exact ⟨o, ep, h1, h2.1, by rw [← he2]; exact h3, hsys⟩
mutual
theorem Dq.rk (I : Inv X pins σ H s) : ∀ {d : PyData} {v : V} {u : Value}, Dq H v d → RelV v u → d.showable = true → d.shown.length ≤ sizeLine →
    ∃ as bs, Reads s.heap u d as ∧ ReadAtMost s.heap d.depth bs ∧ ReprK X.prog X.w bs s.heap d.depth u d.shown
  | _, _, _, .non, r, _, _ => by cases r; exact ⟨_, [], Reads.none, (fun _ h => nomatch h), by simp only [PyData.shown]; exact .of_is ReprIs.none _ _ _⟩
  | _, _, _, .bl b, r, _, _ => by cases r; exact ⟨_, [], Reads.bool b, (fun _ h => nomatch h), by simp only [PyData.shown]; exact .of_is (ReprIs.bool b) _ _ _⟩
  | _, _, _, .int i, r, hs, _ => by
    obtain ⟨t, rfl⟩ := r
    exact ⟨_, [], Reads.int i t, (fun _ h => nomatch h), by simp only [PyData.shown]; exact .of_is (ReprIs.int t (by simpa [PyData.showable] using hs)) _ _ _⟩
  | _, _, _, .str x, r, _, hz => by
    obtain ⟨t, rfl⟩ := r
    exact ⟨_, [], Reads.str x t, (fun _ h => nomatch h), by simp only [PyData.shown]; exact .of_is (ReprIs.str x t (by simpa only [PyData.shown] using hz)) _ _ _⟩
  | _, _, _, .lst (a := a) (ds := ds) hs ha, r, hw, hz => by
    cases r
    have hz' : (listText (PyData.shownAll ds)).length ≤ sizeLine := by simpa only [PyData.shown] using hz
    obtain ⟨its, rv, ⟨o, n, ho, hc, _, hd⟩, _⟩ := I.list (X := X) (Or.inl hs)
    obtain ⟨as, bs, hr, hb, hk⟩ := DqAll.rk I ha rv (by simpa [PyData.showable] using hw) (fun t ht => Nat.le_trans (listText_mem_le ht) hz')
    have r : Reads s.heap (.ref a) (.list ds) _ := .list ho hc hd (by simpa using hr)
    have hna : a ∉ bs := not_mem_of_deeper r (by simp only [PyData.depth]; omega) hb
    refine ⟨_, a :: bs, r, ReadAtMost.cons r (by simp only [PyData.depth]; omega) hb, ?_⟩
    simp only [PyData.depth, PyData.shown]
    cases its with
    | nil =>
      cases hr
      simp only [PyData.shownAll, listText_nil]
      exact ReprK.listEmpty ho hc hd
    | cons x l => exact ReprK.list ho hc hd hna (by simpa using hk.length_eq) (fun i y e => hk.item i y (by simpa using e))
  | _, _, _, .tup (a := a) (ds := ds) hs ha, r, hw, hz => by
    cases r
    have hz' : (tupleText (PyData.shownAll ds)).length ≤ sizeLine := by simpa only [PyData.shown] using hz
    obtain ⟨its, rv, ⟨o, ho, hc, n, hd⟩, _⟩ := I.tuple (X := X) (Or.inl hs)
    obtain ⟨as, bs, hr, hb, hk⟩ := DqAll.rk I ha rv (by simpa [PyData.showable] using hw) (fun t ht => Nat.le_trans (tupleText_mem_le ht) hz')
    have r : Reads s.heap (.ref a) (.tuple ds) _ := .tuple ho hc hd (by simpa using hr)
    have hna : a ∉ bs := not_mem_of_deeper r (by simp only [PyData.depth]; omega) hb
    refine ⟨_, a :: bs, r, ReadAtMost.cons r (by simp only [PyData.depth]; omega) hb, ?_⟩
    simp only [PyData.depth, PyData.shown]
    exact ReprK.tuple ho hc hd hna (by simpa using hk)
  | _, _, _, .dic (a := a) ha, r, _, _ => by
    cases r
    obtain ⟨o, n, ho, hc, hd, hsys⟩ := dic_at I ha
    have r : Reads s.heap (.ref a) (.dict []) _ := .dict (kvs := []) ho hc hd .nil .nil
    refine ⟨_, [a], r, ReadAtMost.cons r (Nat.le_refl _) (fun _ h => nomatch h), ?_⟩
    simp only [PyData.depth, PyData.shown, PyData.shownKv]
    exact ReprK.dict ho hc hd hsys (by simp) .nil
theorem DqAll.rk (I : Inv X pins σ H s) : ∀ {ds : List PyData} {vs : List V} {us : List Value}, DqAll H vs ds → Vals vs us → PyData.showableAll ds = true → (∀ t ∈ PyData.shownAll ds, t.length ≤ sizeLine) →
    ∃ as bs, ReadsAll s.heap us ds as ∧ ReadAtMost s.heap (PyData.depthAll ds) bs ∧ ReprAllK X.prog X.w bs s.heap (PyData.depthAll ds) us (PyData.shownAll ds)
  | _, _, _, .nil, r, _, _ => by cases r; exact ⟨_, [], ReadsAll.nil, (fun _ h => nomatch h), by simp only [PyData.shownAll]; exact .nil⟩
  | _, _, _, .cons (d := d) (ds := ds) h1 h2, r, hw, hz => by
    cases r with
    | cons r1 r2 =>
      have hw' : d.showable = true ∧ PyData.showableAll ds = true := by simpa [PyData.showableAll] using hw
      obtain ⟨as, b1, q1, z1, k1⟩ := Dq.rk I h1 r1 hw'.1 (hz _ (by simp only [PyData.shownAll]; exact List.mem_cons_self))
      obtain ⟨cs, b2, q2, z2, k2⟩ := DqAll.rk I h2 r2 hw'.2 (fun t ht => hz t (by simp only [PyData.shownAll]; exact List.mem_cons_of_mem _ ht))
      refine ⟨_, b1 ++ b2, ReadsAll.cons q1 q2, ?_, ?_⟩
      · simp only [PyData.depthAll]
        exact (z1.mono (Nat.le_max_left _ _)).append (z2.mono (Nat.le_max_right _ _))
      · simp only [PyData.depthAll, PyData.shownAll]
        exact .cons ((k1.more fun b hb => List.mem_append_left _ hb).level_le (Nat.le_max_left _ _)) (k2.more_le (fun b hb => List.mem_append_right _ hb) (Nat.le_max_right _ _))
end
end

/-! ### repr of data -/
/-- what is asked of data that is shown: its ints are no giants, its text is not too long, it is not too deep -/
def Shw (d : PyData) : Prop := d.showable = true ∧ d.shown.length ≤ sizeLine ∧ d.depth ≤ 60
def rRepr : List V → Hp → VK → Prop := fun xs H Q => ∃ x d, xs = [x] ∧ Dq H x d ∧ Shw d ∧ Q (.str d.shown) H
section
variable {X : Cx}
theorem call_repr (hgd : X.A.guards = some []) (hu : X.A.units + 64 < cLine) : CallR X (.builtin "repr") rRepr := by
  intro pins s σ H xs us Q I r h
  obtain ⟨x, d, rfl, hd, ⟨hs, hz, hdp⟩, q⟩ := h
  obtain ⟨u, rfl, rx⟩ := vals1 r
  have fin : ∀ (h' : Heap) (u : Tok) (tk : Nat), (∀ b o, s.heap.get? b = some o → h'.get? b = some o) → EP X pins σ Q (.str d.shown u) { s with heap := h', toks := tk } :=
    fun h' u tk hk => ⟨.str d.shown, H, I.kept hk, ⟨_, rfl⟩, q⟩
  cases hd with
  | non => cases rx; exact PySem.P.repr_of_none (by simpa [PyData.shown] using fin s.heap _ _ fun _ _ e => e)
  | bl b => cases rx; exact PySem.P.repr_of_bool (by simpa [PyData.shown] using fin s.heap _ _ fun _ _ e => e)
  | int i => obtain ⟨t, rfl⟩ := rx; exact PySem.P.repr_of_int (by simpa [PyData.showable] using hs) (by simpa [PyData.shown] using fin s.heap _ _ fun _ _ e => e)
  | str y => obtain ⟨t, rfl⟩ := rx; exact PySem.P.repr_of_str (by simpa [PyData.shown] using fin s.heap _ _ fun _ _ e => e) (by simpa [PyData.shown] using hz)
  | lst h1 h2 =>
    rename_i a xs ds
    cases rx
    have hz' : (listText (PyData.shownAll ds)).length ≤ sizeLine := by simpa only [PyData.shown] using hz
    obtain ⟨its, rv, ⟨o, n, ho, hc, _, hd⟩, _⟩ := I.list (X := X) (Or.inl h1)
    obtain ⟨as, bs, hr, hb, hk⟩ := DqAll.rk I h2 rv (by simpa [PyData.showable] using hs) (fun t ht => Nat.le_trans (listText_mem_le ht) hz')
    have hna : a ∉ bs := not_mem_of_deeper (.list ho hc hd (by simpa using hr)) (by simp only [PyData.depth]; omega) hb
    simp only [PyData.depth] at hdp
    simp only [PyData.shown] at fin
    refine call_repr_slot (by omega) ⟨o, ho, hc⟩ F.slot_list_repr.toG ?_
    cases its with
    | nil =>
      cases hr
      simp only [PyData.shownAll, listText_nil] at fin
      exact call_list_repr_empty ⟨o, ho, hc⟩ ho hd ⟨_, _, rfl, fin s.heap _ _ fun _ _ e => e⟩
    | cons x l =>
      exact call_list_reprK ho hc hd hna (by simpa using hk.length_eq) (fun i y e => hk.item i y (by simpa using e)) hgd (fun b _ => Clear.nil b) (by show X.A.units + 1 + _ < cLine; omega) (fun _ _ e => e)
        (fun h' u tk hk => ⟨_, _, rfl, fin h' u tk hk⟩) hz'
  | tup h1 h2 =>
    rename_i a xs ds
    cases rx
    have hz' : (tupleText (PyData.shownAll ds)).length ≤ sizeLine := by simpa only [PyData.shown] using hz
    obtain ⟨its, rv, ⟨o, ho, hc, n, hd⟩, _⟩ := I.tuple (X := X) (Or.inl h1)
    obtain ⟨as, bs, hr, hb, hk⟩ := DqAll.rk I h2 rv (by simpa [PyData.showable] using hs) (fun t ht => Nat.le_trans (tupleText_mem_le ht) hz')
    have hna : a ∉ bs := not_mem_of_deeper (.tuple ho hc hd (by simpa using hr)) (by simp only [PyData.depth]; omega) hb
    simp only [PyData.depth] at hdp
    simp only [PyData.shown] at fin
    exact call_repr_slot (by omega) ⟨o, ho, hc⟩ F.slot_tuple_repr
      (call_tuple_reprK ho hc hd hna (by simpa using hk) hgd (fun b _ => Clear.nil b) (by show X.A.units + 1 + _ < cLine; omega) (fun _ _ e => e) (fun h' u tk hk => ⟨_, _, rfl, fin h' u tk hk⟩) hz')
  | dic h1 =>
    cases rx
    obtain ⟨o, n, ho, hc, hd, hsys⟩ := dic_at I h1
    simp only [PyData.shown, PyData.shownKv] at fin hz
    exact call_repr_slot (by omega) ⟨o, ho, hc⟩ F.slot_dict_repr
      (call_dict_reprK (as := []) (d := 0) ho hc hd hsys (by simp) .nil hgd (fun b _ => Clear.nil b) (by show X.A.units + 1 + _ < cLine; omega) (fun _ _ e => e) (fun h' u tk hk => ⟨_, _, rfl, fin h' u tk hk⟩) hz)
end
end HX

set_option Elab.async false
set_option linter.all false
set_option maxRecDepth 100000
namespace HX
open PySem PySem.Spec PyProof.Rows L2

/-! ### the end of a law whose def is an FnG -/
section
variable {P : Program} {w : World} {K : PySem.W.Frag} {mg mb : Str → Option Value} {k : Nat} {fa a : Addr} {fd : FuncData} {x : Str} {sp : Sp} {s₁ : Shared} {vs : List Value} {ns : List Int}
/-- what is wanted of the law's call -/
def LawEnd (s₁ : Shared) : Result → Shared → Prop := fun r s' => r = .ok (.ret (.bool true)) ∧ OldK s₁.heap s'.heap ∧ s'.os = s₁.os ∧ AllBare s'.gens
/-- the tracked heap at the start: the script, or nothing -/
theorem law_from (KX : K.In s₁.heap) (hns : s₁.heap.Ns mainGlobals mg) (hb : s₁.heap.Ns builtinsNs mb) (hbb : ∀ x : Str, x ≠ "__name__" → mb x = bootBuiltins x) (hlim : s₁.heap.NoLimit) (hg : s₁.gens = #[])
    (hr : Room k callerA) (FF : ∀ base : Heap, K.In base → base.Ns mainGlobals mg → FnG P w K mg base CX0 k fa fd [x] sp) (hbind : ∀ (s : Shared) (u : Value), BindsTo s fd ⟨[u], []⟩ [(x, u)])
    (hsp : ∀ H : Hp, Only H → SqL K H a (ns.map V.int) → sp [.ref a] H (fun v _ => v = .bl true) fun _ _ _ => False)
    (H : Hp) (hO : Only H) (hS : SqL K H a (ns.map V.int)) (hok : HOk P w H s₁.heap) (hn : ∀ b o, s₁.heap.get? b = some o → H b ≠ none → o.cls = .type "list" ∧ ∃ its n, o.data = .seq its n) (hK : ∀ b o, K.lookup b = some o → H b = none) :
    codeAny (model P w) callerA (.call (.ref fa) ⟨[.ref a], []⟩) (LawEnd s₁) s₁ := by
  have up : ∀ {b : Addr} {m : Str → Option Value}, s₁.heap.Ns b m → (hidT s₁.heap H).Ns b m := by
    rintro b m ⟨o, es, ep, e, d, r⟩
    have hb0 : H b = none := by
      cases q : H b with
      | none => rfl
      | some u =>
        obtain ⟨_, its, n, z⟩ := hn b o e (by rw [q]; simp)
        rw [d] at z; cases z
    exact ⟨o, es, ep, hidT_get e hb0, d, r⟩
  have hKb : K.In (hidT s₁.heap H) := fun b o e => hidT_get (KX b o e) (hK b o e)
  obtain ⟨mc, l1, l2⟩ := hlim
  have hM : Mod K mg (hidT s₁.heap H) := ⟨hKb, up hns, ⟨mb, up hb, hbb⟩, mc, up l1, l2⟩
  have e0 : Env0 P w K mg (hidT s₁.heap H) callerA [] s₁ H :=
    { frames := rfl, mod := hM, bs := fun b o e => of_hidT e, bsz := Nat.le_of_eq (hidT_size _ _), funs := trivial, frf := fun b z => absurd (show b ∈ ([] : List Addr) from z) (by simp), hok := hok, bare := .of_eq hg }
  refine codeAny_mono ((FF _ hKb (up hns)).run callerA [] s₁ H ⟨[.ref a], []⟩ [.ref a] [.ref a] _ _ rfl hr e0 (hbind s₁ (.ref a)) (.cons rfl .nil) (hsp H hO hS)) ?_
  intro r s' h
  match r, h with
  | .error e, h => exact h.elim
  | .ok (.ret u), ⟨v, H', os, bare, un, hok', r', q⟩ =>
    have q' : v = .bl true := q
    subst q'
    cases (show u = Value.bool true from r')
    refine ⟨rfl, OldK.of_keep fun b o e => ?_, os, bare⟩
    rcases hO b with z | ⟨ob, xs, z⟩
    · exact un.keep b o e z (fun m => absurd (show b ∈ ([] : List Addr) from m) (by simp)) (by simp)
    · obtain ⟨e1, _⟩ := hok b _ z
      obtain ⟨e2, _⟩ := hok' b _ (un.frzs b ob _ z)
      rw [e] at e1; cases e1
      exact e2
theorem law_callG (KX : K.In s₁.heap) (hns : s₁.heap.Ns mainGlobals mg) (hb : s₁.heap.Ns builtinsNs mb) (hbb : ∀ x : Str, x ≠ "__name__" → mb x = bootBuiltins x) (hlim : s₁.heap.NoLimit) (hg : s₁.gens = #[])
    (ha : s₁.heap.get? a = some { cls := .type "list", data := .seq vs.toArray }) (hi : IntsAre vs ns) (hl : ns.length ≤ sizeLine)
    (hr : Room k callerA) (FF : ∀ base : Heap, K.In base → base.Ns mainGlobals mg → FnG P w K mg base CX0 k fa fd [x] sp) (hbind : ∀ (s : Shared) (u : Value), BindsTo s fd ⟨[u], []⟩ [(x, u)])
    (hsp : ∀ H : Hp, Only H → SqL K H a (ns.map V.int) → sp [.ref a] H (fun v _ => v = .bl true) fun _ _ _ => False) :
    codeAny (model P w) callerA (.call (.ref fa) ⟨[.ref a], []⟩) (LawEnd s₁) s₁ := by
  have rv := vals_ints hi
  have lenV := hi.length
  cases hk : K.lookup a with
  | some o =>
    have e := KX a o hk
    rw [ha] at e
    cases e
    have hS : SqL K (fun _ => none) a (ns.map V.int) := .inr ⟨_, vs.toArray, _, hk, rfl, rfl, rfl, by rw [List.size_toArray, lenV]; exact hl, by simpa using rv⟩
    exact law_from KX hns hb hbb hlim hg hr FF hbind hsp (fun _ => none) (fun _ => .inl rfl) hS (fun b u z => nomatch z) (fun b o _ z => absurd rfl z) (fun _ _ _ => rfl)
  | none =>
    let H : Hp := fun b => if b = a then some (.frz { cls := .type "list", data := .seq vs.toArray } (.lst (ns.map V.int))) else none
    have Ha : H a = some (.frz { cls := .type "list", data := .seq vs.toArray } (.lst (ns.map V.int))) := if_pos rfl
    have Hn : ∀ b, b ≠ a → H b = none := fun b z => if_neg z
    refine law_from KX hns hb hbb hlim hg hr FF hbind hsp H (fun b => ?_) (.inl (.inr ⟨_, Ha⟩)) (fun b u z => ?_) (fun b o e z => ?_) (fun b o e => ?_)
    · by_cases hb : b = a
      · subst hb; exact .inr ⟨_, _, Ha⟩
      · exact .inl (Hn b hb)
    · by_cases hb : b = a
      · subst hb
        rw [Ha] at z
        cases z
        exact ⟨ha, by rw [List.length_map]; exact hl, vs, _, rv, ha⟩
      · rw [Hn b hb] at z
        cases z
    · by_cases hb : b = a
      · subst hb
        rw [ha] at e
        cases e
        exact ⟨rfl, _, _, rfl⟩
      · exact absurd (Hn b hb) z
    · refine Hn b fun z => ?_
      subst z
      rw [hk] at e
      cases e
end
/-- as walk_ofK of the layer, for an FnG -/
theorem walk_G {l : PySem.W.OpenLaw} {n k : Nat} {q : Program} {loose : List Str} {XP : (Str → Option Value) → Heap → Prop} {YP : World → Heap → Prop} {d : DefRec} {K : Params → PySem.W.Frag} {sp : PySem.W.Frag → Sp} {x : Str}
    (hn : l.most = some n) (hn2 : n ≤ sizeLine) (hdf : d.params.defaults = []) (hr : Room k callerA) (hY : ∀ (w : World) (h : Heap), YP w h → (K w.params).In h)
    (FF : ∀ (w : World) (mg : Str → Option Value) (fa : Addr) (h : Heap), (K w.params).In h → h.Ns mainGlobals mg → mg d.name = some (.ref fa) →
      ∃ fd : FuncData, (∀ (s : Shared) (u : Value), BindsTo s fd ⟨[u], []⟩ [(x, u)]) ∧ ∀ base : Heap, (K w.params).In base → base.Ns mainGlobals mg → FnG l.prog w (K w.params) mg base CX0 k fa fd [x] (sp (K w.params)))
    (hsp : ∀ (K : PySem.W.Frag) (H : Hp) (a : Addr) (ns : List Int), ns.length ≤ n → Only H → SqL K H a (ns.map V.int) → sp K [.ref a] H (fun v _ => v = .bl true) fun _ _ _ => False) :
    PySem.W.WalkO q loose XP YP l.row.toRowW d [] (fun f vs => PySem.call f vs) := by
  refine Att.attach_call hn hdf fun w s₀ s₁ mg mb fa o pm cd doc a vs ns G Y ho hd hcd hmg hobj hints hlen hg => ?_
  obtain ⟨fd, hb, hF⟩ := FF w mg fa _ (hY w _ Y) G.T.g hmg
  exact law_callG (hY w _ Y) G.T.g G.T.b G.T.builtins G.T.nolimit hg hobj hints (Nat.le_trans hlen hn2) hr hF hb (fun H hO hS => hsp _ H a ns hlen hO hS)
end HX

set_option Elab.async false
set_option linter.all false
set_option maxRecDepth 100000
namespace HX
open PySem PySem.Spec PyProof.Rows L2
open Evl (Ex)

/-! ### a def of the module, called by its name -/
def Has (P : Program) (w : World) (K : PySem.W.Frag) (mg : Str → Option Value) (base : Heap) (k : Nat) (x : Str) (sp : Sp) : Prop :=
  ∃ (f : Addr) (fd : FuncData) (ps : List Str), FnOk P w K mg base CX0 k f fd ps sp ∧ mg x = some (.ref f) ∧ PySem.W.keepIn K (.ref f) = true ∧ Binds K fd ps []
def HasG (P : Program) (w : World) (K : PySem.W.Frag) (mg : Str → Option Value) (base : Heap) (k : Nat) (x : Str) (sp : Sp) : Prop :=
  ∃ (f : Addr) (fd : FuncData) (ps : List Str), FnG P w K mg base CX0 k f fd ps sp ∧ mg x = some (.ref f) ∧ PySem.W.keepIn K (.ref f) = true ∧ Binds K fd ps []
section
variable {X : Cx} {k n : Nat} {sp : Sp} {x : Str} {p pos : Pos} {e : Expr} {es : List Expr} {t : TA}
theorem pe_hs (h : Has X.prog X.w X.K X.mg X.base k x sp) (hr : Room n X.A) (hg : Gl X x) (ha : PA X (e :: es) t) (hkn : k ≤ n := by decide) (hdb : (x == ("__debug__" : Str)) = false := by decide)
    (he : starEach (e :: es) X.env = (false, eval e X.env) :: starEach es X.env := by rfl) (hpl : (backTo pos (starEach es X.env)).any (·.1) = false := by rfl) :
    PE X (.Call (.Name x p) (e :: es) [] pos) (tCall sp [] E0 t) := by
  obtain ⟨f, fd, ps, F, hm, hk, hb⟩ := h
  exact pe_call F (hr.mono hkn) hg hm hk hb .nil pass0 ha hdb he hpl
theorem pe_hsG (h : HasG X.prog X.w X.K X.mg X.base k x sp) (hgd : X.A.guards = some []) (hr : Room n X.A) (hg : Gl X x) (ha : PA X (e :: es) t) (hkn : k ≤ n := by decide) (hdb : (x == ("__debug__" : Str)) = false := by decide)
    (he : starEach (e :: es) X.env = (false, eval e X.env) :: starEach es X.env := by rfl) (hpl : (backTo pos (starEach es X.env)).any (·.1) = false := by rfl) :
    PE X (.Call (.Name x p) (e :: es) [] pos) (tCall sp [] E0 t) := by
  obtain ⟨f, fd, ps, F, hm, hk, hb⟩ := h
  exact pe_callG F hgd (hr.mono hkn) hg hm hk hb .nil pass0 ha hdb he hpl
end

/-! ### objects that turn (a jar, a list that grows), all else stands -/
def hid (S : List Addr) (H : Hp) : Hp := fun b => if b ∈ S then none else H b
theorem hid_ne {S : List Addr} {b : Addr} {H : Hp} (h : b ∉ S) : hid S H b = H b := if_neg h
theorem hid_upd {S : List Addr} {j : Addr} {H : Hp} {o : HO} (hj : j ∈ S) : hid S (upd H j o) = hid S H := by
  funext b
  unfold hid
  by_cases h : b ∈ S
  · rw [if_pos h, if_pos h]
  · rw [if_neg h, if_neg h, upd_ne (fun z => h (by rw [z]; exact hj))]
theorem hid_some {S : List Addr} {H : Hp} {b : Addr} {o : HO} (e : hid S H b = some o) : b ∉ S ∧ H b = some o := by
  unfold hid at e
  by_cases h : b ∈ S
  · rw [if_pos h] at e; cases e
  · rw [if_neg h] at e; exact ⟨h, e⟩
theorem hid_ex {S : List Addr} {H : Hp} : Ex (hid S H) H := fun b o e => (hid_some e).2
theorem hid_sub {S T : List Addr} {H : Hp} (h : ∀ b, b ∈ T → b ∈ S) : Ex (hid S H) (hid T H) := fun b o e => by
  obtain ⟨h1, h2⟩ := hid_some e
  rw [hid_ne fun z => h1 (h b z)]
  exact h2
theorem hid_free {S : List Addr} {p : Addr} {H : Hp} (h : H p = none) : hid S H p = none := by
  unfold hid
  split
  · rfl
  · exact h
/-- a step that may turn the objects of S and lays new ones -/
abbrev Jx (S : List Addr) (H H' : Hp) : Prop := Ex (hid S H) (hid S H')
theorem Jx.of {S : List Addr} {H H' : Hp} (e : Ex H H') : Jx S H H' := fun b o q => by
  obtain ⟨h1, h2⟩ := hid_some q
  rw [hid_ne h1]
  exact e b o h2
theorem Jx.upd {S : List Addr} {j : Addr} {H : Hp} {o : HO} (hj : j ∈ S) : Jx S H (upd H j o) := by
  show Ex (hid S H) (hid S (L2.upd H j o))
  rw [hid_upd hj]
  exact Ex.refl _
theorem Jx.refl {S : List Addr} (H : Hp) : Jx S H H := Ex.refl _
theorem Jx.tr {S : List Addr} {H H1 H2 : Hp} (a : Jx S H H1) (b : Jx S H1 H2) : Jx S H H2 := Ex.trans a b
theorem Jx.new {S : List Addr} {p : Addr} {H : Hp} {o : HO} (h : H p = none) : Jx S H (L2.upd H p o) := Jx.of (Ex.new h)
/-- hiding more -/
theorem Jx.more {S T : List Addr} {H H' : Hp} (e : Jx S H H') (h : ∀ b, b ∈ S → b ∈ T) : Jx T H H' := fun b o q => by
  obtain ⟨h1, h2⟩ := hid_some q
  have := e b o (by rw [hid_ne fun z => h1 (h b z)]; exact h2)
  rw [hid_ne h1]
  exact (hid_some this).2
/-- what was not there need not be hidden -/
theorem Jx.less {S : List Addr} {l : Addr} {H H' : Hp} (e : Jx (l :: S) H H') (h : H l = none) : Jx S H H' := fun b o q => by
  obtain ⟨h1, h2⟩ := hid_some q
  have hb : b ∉ l :: S := fun z => by
    rcases List.mem_cons.mp z with rfl | z
    · rw [h] at h2; cases h2
    · exact h1 z
  have := e b o (by rw [hid_ne hb]; exact h2)
  rw [hid_ne h1]
  exact (hid_some this).2
theorem Jx.get {S : List Addr} {p : Addr} {H H' : Hp} {o : HO} (e : Jx S H H') (h : H p = some o) (hp : p ∉ S) : H' p = some o :=
  (hid_some (e p o (by rw [hid_ne hp]; exact h))).2
theorem Jx.dq {S : List Addr} {H H' : Hp} {v : V} {d : PyData} (e : Jx S H H') (h : Dq (hid S H) v d) : Dq (hid S H') v d := h.ex e
theorem Jx.dqa {S : List Addr} {H H' : Hp} {v : List V} {d : List PyData} (e : Jx S H H') (h : DqAll (hid S H) v d) : DqAll (hid S H') v d := h.ex e
theorem fresh_ne {H : Hp} {p q : Addr} {o : HO} (h : H q = some o) (hp : H p = none) : p ≠ q := fun z => by rw [z, h] at hp; cases hp
theorem nin1 {p j : Addr} (h : p ≠ j) : p ∉ [j] := by simp [h]
theorem nin2 {p l j : Addr} (h1 : p ≠ l) (h2 : p ≠ j) : p ∉ [l, j] := by simp [h1, h2]

end HX

namespace HX
open PySem PySem.Spec PyProof.Rows L2
open Evl (Ex)
/-! ### pieces of readings, to be applied one by one -/
section
variable {K : PySem.W.Frag} {H : Hp} {Q : VK} {j : Addr} {xs : List V} {i : Int} {v : V} {σ : L2.St}
theorem go_ixL (hj : Rd H j (.lst xs)) (hi : atI xs i = some v) (q : Q v H) : rIxL K (.ref j) (.int i) H Q := ⟨j, xs, i, v, rfl, rfl, .inl hj, hi, q⟩
theorem go_ixT (hj : Rd H j (.tup xs)) (hi : atI xs i = some v) (q : Q v H) : rIxT K (.ref j) (.int i) H Q := ⟨j, xs, i, v, rfl, rfl, .inl hj, hi, q⟩
theorem go_ixL' (hj : SqL K H j xs) (hi : atI xs i = some v) (q : Q v H) : rIxL K (.ref j) (.int i) H Q := ⟨j, xs, i, v, rfl, rfl, hj, hi, q⟩
theorem go_ixT' (hj : SqT K H j xs) (hi : atI xs i = some v) (q : Q v H) : rIxT K (.ref j) (.int i) H Q := ⟨j, xs, i, v, rfl, rfl, hj, hi, q⟩
theorem go_setL {n : Nat} {q : Hp → Prop} (hj : H j = some (.lst xs)) (hi : ixN xs.length i = some n) (k : q (upd H j (.lst (xs.set n v)))) : rSetL (.ref j) (.int i) v H q := ⟨j, xs, i, n, rfl, rfl, hj, hi, k⟩
/-- a value is handed on, told by what holds of it -/
theorem cut_e {te : TE} (R : V → Hp → Prop) (h : ∀ Q' : VK, (∀ v H', R v H' → Q' v H') → te σ H Q') (k : ∀ v H', R v H' → Q v H') : te σ H Q := h Q k
/-- a statement, then the rest -/
theorem cut_s {t u : TS} {D : Ends} (M : L2.St → Hp → Prop) (h : ∀ D' : Ends, D'.rt = D.rt → D'.bk = D.bk → D'.ct = D.ct → (∀ σ' H', M σ' H' → D'.nx σ' H') → t D' σ H) (k : ∀ σ' H', M σ' H' → u D σ' H') : tSeq t u D σ H :=
  h { D with nx := u D } rfl rfl rfl k
end
end HX

set_option Elab.async false
set_option linter.all false
set_option maxRecDepth 100000
namespace HX
open PySem PySem.Spec PyProof.Rows L2
open Evl (Ex)
/-! ### the connectives of readings, opened one by one -/
section
variable {K : PySem.W.Frag} {H : Hp} {Q : VK} {QA : List V → Hp → Prop} {QT : Bool → Hp → Prop} {QS : L2.St → Hp → Prop} {v x y : V} {σ : L2.St} {ta tb te tc : TE} {t u : TT} {tr : TA} {D : Ends} {t1 t2 : TS} {g : TG} {i j : Nat} {r r' : R2} {a b : Int} {c : Bool}
theorem go_var (h : σ[i]? = some (some v)) (q : Q v H) : tVar i σ H Q := ⟨v, h, q⟩
theorem go_c (q : Q v H) : tC v σ H Q := q
theorem go_op (h : ta σ H fun x H1 => tb σ H1 fun y H2 => r x y H2 Q) : tOp r ta tb σ H Q := h
theorem go_un {r : V → Hp → VK → Prop} (h : ta σ H fun x H1 => r x H1 Q) : tUn r ta σ H Q := h
theorem go_if (h : t σ H fun c H1 => if c = true then ta σ H1 Q else tb σ H1 Q) : tIf t ta tb σ H Q := h
theorem go_test (h : te σ H fun x H' => ∃ k, x = .bl k ∧ QT k H') : tTest te σ H QT := h
theorem go_B (h : te σ H fun x H1 => ∃ c, x = .bl c ∧ QT c H1) : tB te σ H QT := h
theorem go_bl (q : QT c H) : ∃ k, V.bl c = V.bl k ∧ QT k H := ⟨c, rfl, q⟩
theorem go_not (h : t σ H fun c H1 => QT (!c) H1) : tNot t σ H QT := h
theorem go_and (h : t σ H fun c H1 => if c = true then u σ H1 QT else QT false H1) : tAnd t u σ H QT := h
theorem go_or (h : t σ H fun c H1 => if c = true then QT true H1 else u σ H1 QT) : tOr t u σ H QT := h
theorem go_andV (h : ta σ H fun x H1 => ∃ c, x = .bl c ∧ if c = true then tb σ H1 Q else Q (.bl false) H1) : tAndV ta tb σ H Q := h
theorem go_orV (h : ta σ H fun x H1 => ∃ c, x = .bl c ∧ if c = true then Q (.bl true) H1 else tb σ H1 Q) : tOrV ta tb σ H Q := h
theorem go_notV (h : ta σ H fun x H1 => ∃ c, x = .bl c ∧ Q (.bl (!c)) H1) : tNotV ta σ H Q := h
theorem go_chain (h : ta σ H fun x H1 => tb σ H1 fun y H2 => r x y H2 fun z H3 => ∃ k, z = .bl k ∧ (if k = true then tc σ H3 fun w' H4 => r' y w' H4 Q else Q (.bl false) H3)) : tChain r r' ta tb tc σ H Q := h
theorem go_nil (q : QA [] H) : tNil σ H QA := q
theorem go_cons (h : ta σ H fun x H1 => tr σ H1 fun xs H2 => QA (x :: xs) H2) : tCons ta tr σ H QA := h
theorem go_cb {rc : List V → Hp → VK → Prop} (h : tr σ H fun vs H1 => rc vs H1 Q) : tCB rc tr σ H Q := h
theorem go_call {sp : Sp} {dvs : List V} {E : XK} (h : tr σ H fun vs H1 => sp (vs ++ dvs) H1 Q E) : tCall sp dvs E tr σ H Q := h
theorem go_tup (h : tr σ H fun xs H1 => xs.length ≤ sizeLine ∧ ∀ p, H1 p = none → Q (.ref p) (upd H1 p (.tup xs))) : tTup tr σ H Q := h
theorem go_lst (h : tr σ H fun xs H1 => xs.length ≤ sizeLine ∧ ∀ p, H1 p = none → Q (.ref p) (upd H1 p (.lst xs))) : tLst tr σ H Q := h
theorem go_asg (h : te σ H fun x H1 => g x σ H1 D.nx) : tAsg te g D σ H := h
theorem go_name (h : QS (σ.set i (some v)) H) : gName i v σ H QS := h
theorem go_sub {to ti : TE} {ts : TSet} (h : to σ H fun o H1 => ti σ H1 fun i H2 => ts o i v H2 fun H3 => QS σ H3) : gSub to ti ts v σ H QS := h
theorem go_seq (h : t1 { D with nx := t2 D } σ H) : tSeq t1 t2 D σ H := h
theorem go_ret (h : te σ H D.rt) : tRet te D σ H := h
theorem go_retN (h : D.rt .non H) : tRetN D σ H := h
theorem go_drop (h : te σ H fun _ H1 => D.nx σ H1) : tDrop te D σ H := h
theorem go_next (h : D.nx σ H) : tNext D σ H := h
theorem go_brk (h : D.bk σ H) : tBreak D σ H := h
theorem go_cont (h : D.ct σ H) : tCont D σ H := h
theorem go_ifS (h : t σ H fun b H1 => if b = true then t1 D σ H1 else t2 D σ H1) : tIfS t t1 t2 D σ H := h
theorem go_par (h : tr σ H fun vs H1 => ∃ v w, vs = [v, w] ∧ D.nx ((σ.set i (some v)).set j (some w)) H1) : tPar i j tr D σ H := h
theorem go_par2 {P : V → V → Prop} (h : P x y) : ∃ v w, [x, y] = [v, w] ∧ P v w := ⟨x, y, rfl, h⟩
theorem go_bm {T : String} {rb : V → List V → Hp → VK → Prop} (h : ta σ H fun x H1 => tyV K T x H1 ∧ tr σ H1 fun xs H2 => rb x xs H2 Q) : tBM K T rb ta tr σ H Q := h
theorem go_I0 {f : Int → Int → V} (q : Q (f a b) H) : rI0 f (.int a) (.int b) H Q := ⟨a, b, rfl, rfl, q⟩
theorem go_I {C : Int → Int → Prop} {f : Int → Int → V} (hc : C a b) (q : Q (f a b) H) : rI C f (.int a) (.int b) H Q := ⟨a, b, rfl, rfl, hc, q⟩
theorem go_U {f : Int → V} (q : Q (f a) H) : rU f (.int a) H Q := ⟨a, rfl, q⟩
theorem go_eq (h : scal x y = true) (q : Q (.bl (decide (x = y))) H) : rEq x y H Q := ⟨h, q⟩
theorem go_ne (h : scal x y = true) (q : Q (.bl (!decide (x = y))) H) : rNe x y H Q := ⟨h, q⟩
theorem go_isN (q : Q (.bl (decide (x = .non))) H) : rIsN x .non H Q := ⟨rfl, q⟩
theorem go_notN (q : Q (.bl (!decide (x = .non))) H) : rNotN x .non H Q := ⟨rfl, q⟩
theorem go_app {l : Addr} {xs : List V} (h : H l = some (.lst xs)) (hz : xs.length < sizeLine) (q : Q .non (upd H l (.lst (xs ++ [y])))) : rAppend (.ref l) [y] H Q := ⟨l, xs, y, rfl, rfl, h, hz, q⟩
theorem go_tyL {l : Addr} {xs : List V} (h : H l = some (.lst xs)) {P : Prop} (q : P) : tyV K "list" (.ref l) H ∧ P := ⟨.inl ⟨rfl, _, SqL.of h⟩, q⟩
theorem go_cat {l m : Addr} {xs zs : List V} (h1 : H l = some (.lst xs)) (h2 : H m = some (.lst zs)) (hz : xs.length + zs.length ≤ sizeLine) (q : ∀ p, H p = none → Q (.ref p) (upd H p (.lst (xs ++ zs)))) : rCat (.ref l) (.ref m) H Q :=
  ⟨l, m, xs, zs, rfl, rfl, h1, h2, hz, q⟩
theorem go_rep {l : Addr} {xs : List V} {k : Int} (h1 : H l = some (.lst xs)) (h2 : -(2 ^ 63) ≤ k ∧ k < 2 ^ 63) (hz : xs.length * k.toNat ≤ sizeLine) (q : ∀ p, H p = none → Q (.ref p) (upd H p (.lst (List.replicate k.toNat xs).flatten))) : rRep (.ref l) (.int k) H Q :=
  ⟨l, k, xs, rfl, rfl, h1, h2.1, h2.2, hz, q⟩
end
/-! ### built-ins by name -/
def rLenQ (K : PySem.W.Frag) : List V → Hp → VK → Prop := fun xs H Q => ∃ p ys, xs = [.ref p] ∧ (SqL K H p ys ∨ SqT K H p ys) ∧ Q (.int ys.length) H
def rAbsQ : List V → Hp → VK → Prop := fun xs H Q => ∃ i, xs = [.int i] ∧ Q (.int (if i < 0 then -i else i)) H
def rMaxQ : List V → Hp → VK → Prop := fun xs H Q => ∃ i j, xs = [.int i, .int j] ∧ Q (.int (if j > i then j else i)) H
def rMinQ : List V → Hp → VK → Prop := fun xs H Q => ∃ i j, xs = [.int i, .int j] ∧ Q (.int (if j < i then j else i)) H
def rIntQ : List V → Hp → VK → Prop := fun xs H Q => (∃ i, xs = [.int i] ∧ Q (.int i) H) ∨ ∃ k, xs = [.bl k] ∧ Q (.int (if k then 1 else 0)) H
section
variable {X : Cx}
theorem call_lenQ : CallR X (.builtin "len") (rLenQ X.K) := call_len_seq
theorem call_absQ : CallR X (.builtin "abs") rAbsQ := call_abs
theorem call_maxQ (hc : X.calm = true) : CallR X (.builtin "max") rMaxQ := call_max2 hc
theorem call_minQ (hc : X.calm = true) : CallR X (.builtin "min") rMinQ := call_min2 hc
theorem call_intQ : CallR X (.type "int") rIntQ := call_int1
end
section
variable {K : PySem.W.Frag} {H : Hp} {Q : VK} {p : Addr} {ys : List V} {i j : Int} {b : Bool}
theorem go_lenL (h : Rd H p (.lst ys)) (k : Q (.int ys.length) H) : rLenQ K [.ref p] H Q := ⟨p, ys, rfl, .inl (.inl h), k⟩
theorem go_lenT (h : Rd H p (.tup ys)) (k : Q (.int ys.length) H) : rLenQ K [.ref p] H Q := ⟨p, ys, rfl, .inr (.inl h), k⟩
theorem go_lenS (h : SqL K H p ys) (k : Q (.int ys.length) H) : rLenQ K [.ref p] H Q := ⟨p, ys, rfl, .inl h, k⟩
theorem go_abs (k : Q (.int (if i < 0 then -i else i)) H) : rAbsQ [.int i] H Q := ⟨i, rfl, k⟩
theorem go_max (k : Q (.int (if j > i then j else i)) H) : rMaxQ [.int i, .int j] H Q := ⟨i, j, rfl, k⟩
theorem go_min (k : Q (.int (if j < i then j else i)) H) : rMinQ [.int i, .int j] H Q := ⟨i, j, rfl, k⟩
theorem go_int (k : Q (.int i) H) : rIntQ [.int i] H Q := .inl ⟨i, rfl, k⟩
theorem go_intB (k : Q (.int (if b then 1 else 0)) H) : rIntQ [.bl b] H Q := .inr ⟨b, rfl, k⟩
end
/-- a slot is read -/
theorem wide1 {b : Int} (h0 : 0 < b) (h : b < 2 ^ 400) {a : Int} : CDivW a b := wide_div (b := 400) h0 (by omega) (by decide) (by decide)
end HX
namespace HX
open PySem L2
theorem go_new {n : Nat} {R : Prop} (h : n ≤ sizeLine) (k : R) : n ≤ sizeLine ∧ R := ⟨h, k⟩
end HX
namespace HX
open PySem PySem.Spec PyProof.Rows L2
open Evl (Ex)
/-! ### loops -/
section
variable {K : PySem.W.Frag} {H : Hp} {Q : VK} {σ : L2.St} {ta : TA} {tl te : TE} {tt : TT} {D : Ends} {tb : TS} {g : TG} {lo : Int} {n : Nat} {a : Addr} {xs : List V} {vs : List Nat}
def forR (lo : Int) (n : Nat) (g : TG) (tb : TS) : TS := tFor (fun _ H R => R (Itr lo n) H) g tb
def forL (K : PySem.W.Frag) (a : Addr) (g : TG) (tb : TS) : TS := tFor (fun _ H R => R (Itl K a) H) g tb
def forT (K : PySem.W.Frag) (a : Addr) (g : TG) (tb : TS) : TS := tFor (fun _ H R => R (Itt K a) H) g tb
def forE (K : PySem.W.Frag) (a : Addr) (g : TG) (tb : TS) : TS := tFor (fun _ H R => R (Ite K a) H) g tb
theorem go_forR1 (h : ta σ H fun vs H1 => ∃ j : Int, vs = [.int j] ∧ -(2 ^ 62) ≤ j ∧ j < 2 ^ 62 ∧ forR 0 j.toNat g tb D σ H1) : tFor (iRng1 ta) g tb D σ H := h
theorem go_forR2 (h : ta σ H fun vs H1 => ∃ i j : Int, vs = [.int i, .int j] ∧ (-(2 ^ 62) ≤ i ∧ i < 2 ^ 62 ∧ -(2 ^ 62) ≤ j ∧ j < 2 ^ 62) ∧ forR i (j - i).toNat g tb D σ H1) : tFor (iRng2 ta) g tb D σ H := h
theorem go_forL (h : tl σ H fun x H1 => ∃ a, x = .ref a ∧ (∃ xs, SqL K H1 a xs) ∧ forL K a g tb D σ H1) : tFor (iList K tl) g tb D σ H := h
theorem go_forT (h : tl σ H fun x H1 => ∃ a, x = .ref a ∧ (∃ xs, SqT K H1 a xs) ∧ forT K a g tb D σ H1) : tFor (iTup K tl) g tb D σ H := h
theorem go_forE (h : ta σ H fun vs H1 => ∃ a xs, vs = [.ref a] ∧ SqL K H1 a xs ∧ forE K a g tb D σ H1) : tFor (iEnum K ta) g tb D σ H := h
theorem run_forR (Pv : Nat → L2.St → Hp → Prop) (h0 : Pv 0 σ H)
    (hs : ∀ i σ H, i < n → Pv i σ H → g (.int (lo + i)) σ H fun σ2 H2 => tb { D with nx := Pv (i + 1), ct := Pv (i + 1), bk := D.nx } σ2 H2) (hd : ∀ σ H, Pv n σ H → D.nx σ H) : forR lo n g tb D σ H := for_range Pv h0 hs hd
theorem run_forL (xs : List V) (Pv : Nat → L2.St → Hp → Prop) (h0 : Pv 0 σ H) (hl : ∀ i σ H, i ≤ xs.length → Pv i σ H → SqL K H a xs)
    (hs : ∀ i x σ H, xs[i]? = some x → Pv i σ H → g x σ H fun σ2 H2 => tb { D with nx := Pv (i + 1), ct := Pv (i + 1), bk := D.nx } σ2 H2) (hd : ∀ σ H, Pv xs.length σ H → D.nx σ H) : forL K a g tb D σ H := for_list Pv h0 hl hs hd
theorem run_forT (xs : List V) (Pv : Nat → L2.St → Hp → Prop) (h0 : Pv 0 σ H) (hl : ∀ i σ H, i ≤ xs.length → Pv i σ H → SqT K H a xs)
    (hs : ∀ i x σ H, xs[i]? = some x → Pv i σ H → g x σ H fun σ2 H2 => tb { D with nx := Pv (i + 1), ct := Pv (i + 1), bk := D.nx } σ2 H2) (hd : ∀ σ H, Pv xs.length σ H → D.nx σ H) : forT K a g tb D σ H := for_tup Pv h0 hl hs hd
/-- comprehensions -/
def lcR (lo : Int) (n : Nat) (g : TG) (tt : TT) (te : TE) (vs : List Nat) : TE := tLc (fun _ H R => R (Itr lo n) H) g tt te vs
def lcL (K : PySem.W.Frag) (a : Addr) (g : TG) (tt : TT) (te : TE) (vs : List Nat) : TE := tLc (fun _ H R => R (Itl K a) H) g tt te vs
def lcT (K : PySem.W.Frag) (a : Addr) (g : TG) (tt : TT) (te : TE) (vs : List Nat) : TE := tLc (fun _ H R => R (Itt K a) H) g tt te vs
theorem go_lcR1 (h : ta σ H fun us H1 => ∃ j : Int, us = [.int j] ∧ -(2 ^ 62) ≤ j ∧ j < 2 ^ 62 ∧ lcR 0 j.toNat g tt te vs σ H1 Q) : tLc (iRng1 ta) g tt te vs σ H Q := h
theorem go_lcL (h : tl σ H fun x H1 => ∃ a, x = .ref a ∧ (∃ xs, SqL K H1 a xs) ∧ lcL K a g tt te vs σ H1 Q) : tLc (iList K tl) g tt te vs σ H Q := h
theorem go_lcT (h : tl σ H fun x H1 => ∃ a, x = .ref a ∧ (∃ xs, SqT K H1 a xs) ∧ lcT K a g tt te vs σ H1 Q) : tLc (iTup K tl) g tt te vs σ H Q := h
/-- acc at D so far: Pv i acc H; what a turn appends -/
theorem run_lcR (Pv : Addr → Nat → Hp → Prop) (h0 : ∀ D, H D = none → Pv D 0 (upd H D (.lst [])))
    (hs : ∀ D i H, i < n → Pv D i H → g (.int (lo + i)) (wipe σ vs) H fun σ2 H2 => wipe σ2 vs = wipe σ vs ∧ tt σ2 H2 fun b H3 =>
      if b = true then te σ2 H3 fun y H4 => ∃ acc, H4 D = some (.lst acc) ∧ acc.length < sizeLine ∧ Pv D (i + 1) (upd H4 D (.lst (acc ++ [y]))) else Pv D (i + 1) H3) (hd : ∀ D H', H D = none → Pv D n H' → Q (.ref D) H') : lcR lo n g tt te vs σ H Q :=
  fun D hD => lc_range (Pv D) (h0 D hD) (hs D) fun H' p => hd D H' hD p
theorem run_lcL (xs : List V) (Pv : Addr → Nat → Hp → Prop) (h0 : ∀ D, H D = none → Pv D 0 (upd H D (.lst []))) (hl : ∀ D i H, i ≤ xs.length → Pv D i H → SqL K H a xs)
    (hs : ∀ D i x H, xs[i]? = some x → Pv D i H → g x (wipe σ vs) H fun σ2 H2 => wipe σ2 vs = wipe σ vs ∧ tt σ2 H2 fun b H3 =>
      if b = true then te σ2 H3 fun y H4 => ∃ acc, H4 D = some (.lst acc) ∧ acc.length < sizeLine ∧ Pv D (i + 1) (upd H4 D (.lst (acc ++ [y]))) else Pv D (i + 1) H3) (hd : ∀ D H', H D = none → Pv D xs.length H' → Q (.ref D) H') : lcL K a g tt te vs σ H Q :=
  fun D hD => lc_list (Pv D) (h0 D hD) (hl D) (hs D) fun H' p => hd D H' hD p
theorem run_lcT (xs : List V) (Pv : Addr → Nat → Hp → Prop) (h0 : ∀ D, H D = none → Pv D 0 (upd H D (.lst []))) (hl : ∀ D i H, i ≤ xs.length → Pv D i H → SqT K H a xs)
    (hs : ∀ D i x H, xs[i]? = some x → Pv D i H → g x (wipe σ vs) H fun σ2 H2 => wipe σ2 vs = wipe σ vs ∧ tt σ2 H2 fun b H3 =>
      if b = true then te σ2 H3 fun y H4 => ∃ acc, H4 D = some (.lst acc) ∧ acc.length < sizeLine ∧ Pv D (i + 1) (upd H4 D (.lst (acc ++ [y]))) else Pv D (i + 1) H3) (hd : ∀ D H', H D = none → Pv D xs.length H' → Q (.ref D) H') : lcT K a g tt te vs σ H Q :=
  fun D hD => lc_tup (Pv D) (h0 D hD) (hl D) (hs D) fun H' p => hd D H' hD p
end
end HX
namespace HX
open PySem PySem.Spec PyProof.Rows L2
theorem cut_t {tt : TT} {σ : L2.St} {H : Hp} {Q : Bool → Hp → Prop} (R : Bool → Hp → Prop) (h : ∀ Q' : Bool → Hp → Prop, (∀ b H', R b H' → Q' b H') → tt σ H Q') (k : ∀ b H', R b H' → Q b H') : tt σ H Q := h Q k
theorem go_neD {K : PySem.W.Frag} {H : Hp} {Q : VK} {x y : V} {d e : PyData} (h1 : Dq H x d) (h2 : Dq H y e) (s1 : SeqAt.shaped d = true) (s2 : SeqAt.shaped e = true) (q : Q (.bl (!PyData.eqv d e)) H) : rNeD K x y H Q :=
  ⟨d, e, h1.dp (PyData.hasDict_of_canLay d (SeqAt.canLay_of_shaped s1)), h2.dp (PyData.hasDict_of_canLay e (SeqAt.canLay_of_shaped s2)), s1, s2, q⟩
theorem go_eqD {K : PySem.W.Frag} {H : Hp} {Q : VK} {x y : V} {d e : PyData} (h1 : Dq H x d) (h2 : Dq H y e) (s1 : SeqAt.shaped d = true) (s2 : SeqAt.shaped e = true) (q : Q (.bl (PyData.eqv d e)) H) : rEqD K x y H Q :=
  ⟨d, e, h1.dp (PyData.hasDict_of_canLay d (SeqAt.canLay_of_shaped s1)), h2.dp (PyData.hasDict_of_canLay e (SeqAt.canLay_of_shaped s2)), s1, s2, q⟩
end HX
namespace HX
open PySem PySem.Spec PyProof.Rows L2
section
variable {K : PySem.W.Frag} {H : Hp} {Q : VK} {σ : L2.St} {te : TE} {tl th : TO} {QO : Option Int → Hp → Prop} {a : Addr} {xs : List V} {i : Int} {lo hi : Option Int}
theorem go_sl {r : V → Option Int → Option Int → Hp → VK → Prop} (h : te σ H fun x H1 => tl σ H1 fun l H2 => th σ H2 fun u H3 => r x l u H3 Q) : tSl r te tl th σ H Q := h
theorem go_part (h : te σ H fun x H1 => ∃ i, x = .int i ∧ QO (some i) H1) : tPart te σ H QO := h
theorem go_pint {Q : Int → Prop} (h : Q i) : ∃ j, V.int i = V.int j ∧ Q j := ⟨i, rfl, h⟩
theorem go_nopart (h : QO none H) : tNoPart σ H QO := h
theorem go_slT (h : Rd H a (.tup xs)) (hn : ¬ (HT.sIx xs.length 0 lo = 0 ∧ HT.sIx xs.length xs.length hi = xs.length)) (k : ∀ p, H p = none → Q (.ref p) (upd H p (.tup (cutV xs lo hi)))) : rSlT K (.ref a) lo hi H Q := ⟨a, xs, rfl, .inl h, hn, k⟩
theorem go_slL (h : Rd H a (.lst xs)) (k : ∀ p, H p = none → Q (.ref p) (upd H p (.lst (cutV xs lo hi)))) : rSlL K (.ref a) lo hi H Q := ⟨a, xs, rfl, .inl h, k⟩
theorem cut_tail (x : V) (l : List V) : cutV (x :: l) (some 1) none = l ∧ ¬ (HT.sIx (x :: l).length 0 (some 1) = 0 ∧ HT.sIx (x :: l).length (x :: l).length none = (x :: l).length) := by
  have e1 : HT.sIx (x :: l).length 0 (some 1) = 1 := by
    simp [HT.sIx]
  have e2 : HT.sIx (x :: l).length (x :: l).length none = l.length + 1 := by
    simp [HT.sIx]
  refine ⟨?_, by rw [e1]; simp⟩
  unfold cutV
  rw [e1, e2]
  simp
end
end HX
namespace HX
open PySem PySem.Spec PyProof.Rows L2
theorem run_forE {K : PySem.W.Frag} {a : Addr} {g : TG} {tb : TS} {D : Ends} {σ : L2.St} {H : Hp} (xs : List V) (Pv : Nat → L2.St → Hp → Prop) (h0 : Pv 0 σ H) (hl : ∀ i σ H, i ≤ xs.length → Pv i σ H → SqL K H a xs)
    (hs : ∀ i x σ H T, xs[i]? = some x → Pv i σ H → H T = none → g (.ref T) σ (upd H T (.tup [.int (i : Nat), x])) fun σ2 H2 => tb { D with nx := Pv (i + 1), ct := Pv (i + 1), bk := D.nx } σ2 H2)
    (hd : ∀ σ H, Pv xs.length σ H → D.nx σ H) : forE K a g tb D σ H := by
  refine ⟨fun i m σ H => m = xs.length - i ∧ i ≤ xs.length ∧ Pv i σ H, ⟨xs.length, by simp, Nat.zero_le _, h0⟩, ?_⟩
  rintro i m σ H ⟨rfl, hi, p⟩
  have q := hl i σ H hi p
  rcases Nat.lt_or_ge i xs.length with hlt | hge
  · refine .inr ⟨⟨xs, xs[i], q, by simp [hlt]⟩, Pv (i + 1), fun σ' H' p' => ⟨xs.length - (i + 1), by omega, rfl, hlt, p'⟩, ?_⟩
    rintro v H' ⟨T, x, rfl, hT, rfl, y⟩
    exact hs i x σ H T (y xs q) p hT
  · obtain rfl : i = xs.length := by omega
    exact .inl ⟨⟨xs, q, Nat.le_refl _⟩, hd σ H p⟩
end HX

set_option Elab.async false
set_option linter.all false
set_option maxRecDepth 100000
namespace HX
open PySem PySem.Spec PyProof.Rows L2
open Evl (Ex)
/-! ### isinstance of data -/
def tyNm : PyData → String
  | .none => "NoneType"
  | .bool _ => "bool"
  | .int _ => "int"
  | .str _ => "str"
  | .list _ => "list"
  | .tuple _ => "tuple"
  | .dict _ => "dict"
theorem Dq.ty {K : PySem.W.Frag} {H : Hp} {x : V} {d : PyData} (h : Dq H x d) : TyX K H x (.type (tyNm d)) := by
  cases h with
  | non => exact .base .non
  | bl b => exact .base (.bl b)
  | int i => exact .base (.int i)
  | str y => exact .base (.str y)
  | lst h k => rcases h with h | ⟨o, h⟩
               · exact .base (.lst h)
               · exact .base (.frz h)
  | tup h k => rcases h with h | ⟨o, h⟩
               · exact .base (.tup h)
               · exact .fTuple h
  | dic h => exact .base (.dK h)
theorem go_isi {K : PySem.W.Frag} {H : Hp} {x : V} {d : PyData} {T : String} {b : Bool} {Q : VK} (h : Dq H x d) (e : kitB (tyNm d) T = some b) (q : Q (.bl b) H) : rIsi K [x, .ty T] H Q :=
  ⟨x, .ty T, _, _, b, rfl, .ty T, h.ty, kit_ty e, q⟩
def pInt : PyData → Bool
  | .int _ => true
  | .bool _ => true
  | _ => false
theorem kit_int (d : PyData) : kitB (tyNm d) "int" = some (pInt d) := by
  cases d with
  | none => exact (by decide +kernel : kitB "NoneType" "int" = some false)
  | bool _ => exact (by decide +kernel : kitB "bool" "int" = some true)
  | int _ => exact (by decide +kernel : kitB "int" "int" = some true)
  | str _ => exact (by decide +kernel : kitB "str" "int" = some false)
  | list _ => exact (by decide +kernel : kitB "list" "int" = some false)
  | tuple _ => exact (by decide +kernel : kitB "tuple" "int" = some false)
  | dict _ => exact (by decide +kernel : kitB "dict" "int" = some false)
def pBool : PyData → Bool
  | .bool _ => true
  | _ => false
theorem kit_bool (d : PyData) : kitB (tyNm d) "bool" = some (pBool d) := by
  cases d with
  | none => exact (by decide +kernel : kitB "NoneType" "bool" = some false)
  | bool _ => exact (by decide +kernel : kitB "bool" "bool" = some true)
  | int _ => exact (by decide +kernel : kitB "int" "bool" = some false)
  | str _ => exact (by decide +kernel : kitB "str" "bool" = some false)
  | list _ => exact (by decide +kernel : kitB "list" "bool" = some false)
  | tuple _ => exact (by decide +kernel : kitB "tuple" "bool" = some false)
  | dict _ => exact (by decide +kernel : kitB "dict" "bool" = some false)
def pStr : PyData → Bool
  | .str _ => true
  | _ => false
theorem kit_str (d : PyData) : kitB (tyNm d) "str" = some (pStr d) := by
  cases d with
  | none => exact (by decide +kernel : kitB "NoneType" "str" = some false)
  | bool _ => exact (by decide +kernel : kitB "bool" "str" = some false)
  | int _ => exact (by decide +kernel : kitB "int" "str" = some false)
  | str _ => exact (by decide +kernel : kitB "str" "str" = some true)
  | list _ => exact (by decide +kernel : kitB "list" "str" = some false)
  | tuple _ => exact (by decide +kernel : kitB "tuple" "str" = some false)
  | dict _ => exact (by decide +kernel : kitB "dict" "str" = some false)
def pList : PyData → Bool
  | .list _ => true
  | _ => false
theorem kit_list (d : PyData) : kitB (tyNm d) "list" = some (pList d) := by
  cases d with
  | none => exact (by decide +kernel : kitB "NoneType" "list" = some false)
  | bool _ => exact (by decide +kernel : kitB "bool" "list" = some false)
  | int _ => exact (by decide +kernel : kitB "int" "list" = some false)
  | str _ => exact (by decide +kernel : kitB "str" "list" = some false)
  | list _ => exact (by decide +kernel : kitB "list" "list" = some true)
  | tuple _ => exact (by decide +kernel : kitB "tuple" "list" = some false)
  | dict _ => exact (by decide +kernel : kitB "dict" "list" = some false)
def pTuple : PyData → Bool
  | .tuple _ => true
  | _ => false
theorem kit_tuple (d : PyData) : kitB (tyNm d) "tuple" = some (pTuple d) := by
  cases d with
  | none => exact (by decide +kernel : kitB "NoneType" "tuple" = some false)
  | bool _ => exact (by decide +kernel : kitB "bool" "tuple" = some false)
  | int _ => exact (by decide +kernel : kitB "int" "tuple" = some false)
  | str _ => exact (by decide +kernel : kitB "str" "tuple" = some false)
  | list _ => exact (by decide +kernel : kitB "list" "tuple" = some false)
  | tuple _ => exact (by decide +kernel : kitB "tuple" "tuple" = some true)
  | dict _ => exact (by decide +kernel : kitB "dict" "tuple" = some false)
theorem tuple_or (d : PyData) : (∃ ds, d = .tuple ds) ∨ pTuple d = false := by
  cases d with
  | tuple ds => exact .inl ⟨_, rfl⟩
  | _ => exact .inr rfl
theorem str_or (d : PyData) : (∃ x, d = .str x) ∨ pStr d = false := by
  cases d with
  | str ds => exact .inl ⟨_, rfl⟩
  | _ => exact .inr rfl
theorem list_or (d : PyData) : (∃ x, d = .list x) ∨ pList d = false := by
  cases d with
  | list ds => exact .inl ⟨_, rfl⟩
  | _ => exact .inr rfl
/-! ### a tuple unpacked -/
section
variable {K : PySem.W.Frag} {H : Hp} {σ : L2.St} {Q : L2.St → Hp → Prop} {a : Addr} {xs : List V} {n : Nat} {t : TGs} {g : TG} {v : V}
theorem go_gtup (h : SqT K H a xs) (hl : xs.length = n) (k : t xs σ H Q) : gTup K n t (.ref a) σ H Q := ⟨a, xs, rfl, h, hl, k⟩
theorem go_gcons (k : g v σ H fun σ' H' => t xs σ' H' Q) : gCons g t (v :: xs) σ H Q := ⟨v, xs, rfl, k⟩
theorem go_gnil (k : Q σ H) : gNil [] σ H Q := ⟨rfl, k⟩
end
theorem Dq.tupleAt {H : Hp} {x : V} {ds : List PyData} (h : Dq H x (.tuple ds)) : ∃ a xs, x = .ref a ∧ Rd H a (.tup xs) ∧ DqAll H xs ds := by
  cases h with
  | tup h1 h2 => exact ⟨_, _, rfl, h1, h2⟩
theorem Dq.listAt {H : Hp} {x : V} {ds : List PyData} (h : Dq H x (.list ds)) : ∃ a xs, x = .ref a ∧ Rd H a (.lst xs) ∧ DqAll H xs ds := by
  cases h with
  | lst h1 h2 => exact ⟨_, _, rfl, h1, h2⟩
/-! ### a def called by keywords alone -/
def HasK (P : Program) (w : World) (K : PySem.W.Frag) (mg : Str → Option Value) (base : Heap) (k : Nat) (x : Str) (ks : List Str) (g : List Value → List Value) (gV : List V → List V) (sp : Sp) : Prop :=
  ∃ (f : Addr) (fd : FuncData) (ps : List Str), FnOk P w K mg base CX0 k f fd ps sp ∧ mg x = some (.ref f) ∧ PySem.W.keepIn K (.ref f) = true ∧ KBn K fd ps 0 ks (fun _ ws => g ws) (fun _ zs => gV zs)
def tKw (n : Nat) (sp : Sp) (gV : List V → List V) (tk : TA) : TE := fun σ H Q => tk σ H fun zs H2 => zs.length = n ∧ sp (gV zs) H2 Q E0
section
variable {X : Cx} {k n : Nat} {sp : Sp} {x : Str} {p pos : Pos} {kws : List Keyword} {tk : TA} {ks : List Str} {g : List Value → List Value} {gV : List V → List V}
theorem pe_kw (h : HasK X.prog X.w X.K X.mg X.base k x ks g gV sp) (hr : Room n X.A) (hg : Gl X x) (hkw : PK X kws tk) (hkn : k ≤ n := by decide)
    (hall : (backToKw pos (keywordEach kws X.env)).all (·.1.isSome) = true := by rfl) (hks : (backToKw pos (keywordEach kws X.env)).filterMap (·.1) = ks := by rfl) (hdb : (x == ("__debug__" : Str)) = false := by decide)
    (hpl : ((backTo pos (starEach [] X.env)).any (·.1) || (backToKw pos (keywordEach kws X.env)).any (·.1.isNone)) = false := by rfl) :
    PE X (.Call (.Name x p) [] kws pos) (tKw ks.length sp gV tk) := by
  obtain ⟨f, fd, ps, F, hm, hk, hb⟩ := h
  refine ⟨fun pins s σ H Q I h => ?_⟩
  refine wpAny_Call_Name_kw (ld_glob I hg hm ?_ hdb)
  refine PySem.W.callWith_KW0 (h₀ := X.base) I.ok.mod.kin hk hall ?_ hpl
  refine thn (hkw.run pos pins s σ H _ I h) fun ws s2 ⟨zs, H2, I2, rz, l2, q2⟩ => ⟨I2.kIn, ?_⟩
  rw [hks]
  exact run_fnN (us := []) (vs := []) (n := 0) F (hr.mono hkn) hb pass0 I2 .nil rz rfl l2 q2
theorem go_kw {σ : L2.St} {H : Hp} {Q : VK} (h : tk σ H fun zs H2 => zs.length = n ∧ sp (gV zs) H2 Q E0) : tKw n sp gV tk σ H Q := h
end
end HX

set_option Elab.async false
set_option linter.all false
set_option maxRecDepth 100000
set_option maxHeartbeats 1000000

namespace Kx
open PySem PySem.Spec PyProof.Rows L2 HX
open Evl (Ex)
def top (i : Nat) : Stmt := PySem.Challenge.pw_imagetones_k30_stops_step_by_step.main.body.getD i (.Pass ⟨0, 0, 0, 0⟩)
/-- the stock: what is left of the digits, a seed, how many draws were mixed (n at most) -/
def JarAt (n : Nat) (H : Hp) (j : Addr) : Prop := ∃ a b c : Int, H j = some (.lst [.int a, .int b, .int c]) ∧ 0 ≤ b ∧ b < 2 ^ 128 ∧ 0 ≤ c ∧ c ≤ n
theorem JarAt.mono {n m : Nat} {H : Hp} {j : Addr} (h : JarAt n H j) (e : n ≤ m) : JarAt m H j := by
  obtain ⟨a, b, c, h1, h2, h3, h4, h5⟩ := h
  exact ⟨a, b, c, h1, h2, h3, h4, by omega⟩
def spStk (K : PySem.W.Frag) : Sp := fun vs H Q _ => ∃ (a : Addr) (ns : List Int), vs = [.ref a] ∧ SqL K H a (ns.map V.int) ∧ ns.length ≤ 63 ∧ ∀ j H', H j = none → Ex H H' → JarAt 0 H' j → Q (.ref j) H'
def spPick : Sp := fun vs H Q _ => ∃ (j : Addr) (bound : Int) (n : Nat), vs = [.ref j, .int bound] ∧ JarAt n H j ∧ n < 2 ^ 50 ∧ 0 < bound ∧ bound < 2 ^ 400 ∧
  ∀ (r : Int) (H' : Hp), 0 ≤ r → r < bound → JarAt (n + 1) H' j → Jx [j] H H' → Q (.int r) H'
local macro_rules | `(tactic| walk_at "side") => `(tactic| first | assumption | ((try dsimp only); first | assumption | decide +kernel | omega | exact ⟨by decide, by decide⟩ | (left; decide) | (left; omega) | (refine Or.inl ⟨?_, ?_⟩ <;> omega) | (refine Or.inr ⟨?_, ?_⟩ <;> omega)))
local macro_rules | `(tactic| walk_at "heap") => `(tactic| first | assumption | exact upd_same | exact Or.inl (by assumption) | exact Or.inl upd_same)
local macro_rules | `(tactic| walk_at "item") => `(tactic| first | exact rfl | exact atI_nat (j := 0) rfl | exact atI_nat (j := 1) rfl | exact atI_nat (j := 2) rfl | assumption)
local macro_rules | `(tactic| walk_at "rd") => `(tactic| repeat (first
  | ((with_reducible refine' go_var ?hv ?_); (case hv => exact rfl))
  | with_reducible refine' go_c ?_
  | with_reducible refine' go_op ?_
  | with_reducible refine' go_seq ?_
  | with_reducible refine' go_asg ?_
  | with_reducible refine' go_name ?_
  | with_reducible refine' go_cons ?_
  | with_reducible refine' go_nil ?_
  | with_reducible refine' go_cb ?_
  | with_reducible refine' go_call ?_
  | with_reducible refine' go_ifS ?_
  | with_reducible refine' go_test ?_
  | with_reducible refine' go_bl ?_
  | with_reducible refine' go_ret ?_
  | with_reducible refine' go_I0 ?_
  | ((with_reducible refine' go_I ?cc ?_); (case cc => walk_at "side"))
  | ((with_reducible refine' go_ixL ?hh ?hk ?_); (case hh => walk_at "heap"); (case hk => walk_at "item"))
  | ((with_reducible refine' go_ixT ?hh ?hk ?_); (case hh => walk_at "heap"); (case hk => walk_at "item"))
  | ((with_reducible refine' go_lenL ?hh ?_); (case hh => walk_at "heap"))
  | ((with_reducible refine' go_lenT ?hh ?_); (case hh => walk_at "heap"))
  | ((with_reducible refine' go_setL ?hh ?hk ?_); (case hh => walk_at "heap"); (case hk => walk_at "item"))
  | with_reducible refine' go_abs ?_
  | with_reducible refine' go_max ?_
  | with_reducible refine' go_min ?_
  | with_reducible refine' go_int ?_
  | with_reducible refine' go_intB ?_
  | (with_reducible refine' go_eq rfl ?_)
  | (with_reducible refine' go_ne rfl ?_)
  | with_reducible refine' go_isN ?_
  | with_reducible refine' go_notN ?_
  | with_reducible refine' go_if ?_
  | with_reducible refine' go_sub ?_
  | with_reducible refine' go_par ?_
  | with_reducible refine' go_sl ?_
  | with_reducible refine' go_part ?_
  | with_reducible refine' go_pint ?_
  | with_reducible refine' go_nopart ?_
  | ((with_reducible refine' go_lenL ?hh ?_); (case hh => walk_at "heap"))
  | ((with_reducible refine' go_lenT ?hh ?_); (case hh => walk_at "heap"))
  | ((with_reducible refine' go_lenS ?hh ?_); (case hh => assumption))
  | with_reducible refine' go_gcons ?_
  | with_reducible refine' go_gnil ?_
  | with_reducible refine' go_kw ?_
  | with_reducible refine' go_par2 ?_
  | with_reducible refine' go_next ?_
  | with_reducible refine' go_drop ?_
  | with_reducible refine' go_and ?_
  | with_reducible refine' go_or ?_
  | with_reducible refine' go_not ?_
  | with_reducible refine' go_B ?_
  | with_reducible refine' go_andV ?_
  | with_reducible refine' go_orV ?_
  | with_reducible refine' go_notV ?_
  | with_reducible refine' go_chain ?_
  | with_reducible refine' go_un ?_
  | with_reducible refine' go_U ?_
  | with_reducible refine' go_bm ?_
  | with_reducible refine' go_tup ?_
  | with_reducible refine' go_lst ?_
  | with_reducible refine' go_forR1 ?_
  | with_reducible refine' go_forR2 ?_
  | with_reducible refine' go_forL ?_
  | with_reducible refine' go_forT ?_
  | with_reducible refine' go_forE ?_
  | with_reducible refine' go_lcR1 ?_
  | with_reducible refine' go_lcL ?_
  | with_reducible refine' go_lcT ?_
  | ((with_reducible refine' go_tyL ?hh ?_); (case hh => walk_at "heap"))
  | ((with_reducible refine' go_new ?hz ?_); (case hz => exact Nat.le_of_ble_eq_true rfl))
  | (with_reducible refine' ⟨_, rfl, ?_⟩)
  ))
--MACEND
section
variable {P : Program} {w : World} {K : PySem.W.Frag} {mg : Str → Option Value} {base : Heap}
abbrev s__law_stock : Stmt := top 60
theorem sc__law_stock : FnScope ["script", "digits", "mixed", "cell", "grown"] ["script"] (defScope s__law_stock) := ⟨rfl, rfl, rfl, by decide +kernel, rfl, by decide +kernel, by decide +kernel⟩
theorem ok_stock {f : Addr} {fd : FuncData} (F : Fun K "_law_stock" "_law_stock" s__law_stock f fd) (m_abs : mg "abs" = none) (m_int : mg "int" = none) :
    FnOk P w K mg base CX0 1 f fd ["script"] (spStk K) := by
  refine F.ok sc__law_stock (fun vs H Q E h => ?_) (fun cdv A outer s H vs Q E hr h => ?_)
  · obtain ⟨a, ns, rfl, _⟩ := h
    rfl
  · obtain ⟨a, ns, rfl, hS, hn, k⟩ := h
    refine ⟨_, (pss_cons (ps_asg (pe_tup (pa_cons pe_int (pa_cons pe_int pa_nil))) (pg_tup (by rfl) (pgs_cons (pg_name (i := 1) sc__law_stock.nd rfl (Or.inl rfl)) (pgs_cons (pg_name (i := 2) sc__law_stock.nd rfl (Or.inl rfl)) pgs_nil))))
  (pss_cons (ps_for PassesOwn.never rfl (pi_list (pe_slice sl_list (pv 0) po_none (po_some pe_int))) (pg_name (i := 3) sc__law_stock.nd rfl (Or.inl rfl))
  (pss_cons (ps_if (pt_cmpR op_ge (pe_callB call_absQ rfl m_abs (by decide +kernel) (pa_cons (pv 3) pa_nil)) (pe_op op_powW pe_int pe_int) (nomark _))
  (pss_one (ps_set (i := 1) sc__law_stock.nd rfl (Or.inl rfl) (pe_op op_add (pe_op op_mulW (pv 1) (pe_op op_powW pe_int pe_int)) (pe_op op_mod (pe_callTy call_intQ rfl m_int boot_int (pa_cons (pe_callB call_absQ rfl m_abs (by decide +kernel) (pa_cons (pv 3) pa_nil)) pa_nil)) (pe_op op_powW pe_int pe_int)))))
  pss_nil)
  (pss_cons (ps_set (i := 4) sc__law_stock.nd rfl (Or.inl rfl) (pe_op op_add (pe_op op_add (pe_op op_mul (pv 2) pe_int) (pe_op op_mod (pe_callTy call_intQ rfl m_int boot_int (pa_cons (pv 3) pa_nil)) pe_int)) pe_int))
  (pss_one (ps_set (i := 2) sc__law_stock.nd rfl (Or.inl rfl) (pe_op op_mod (pe_callTy call_intQ rfl m_int boot_int (pa_cons (pv 4) pa_nil)) pe_int))))))
  (pss_one (ps_ret (pe_lst (pa_cons (pv 1) (pa_cons (pv 2) (pa_cons pe_int pa_nil)))))))), ?_⟩
    have c18 : CPowW 10 18 := wide_pow (b := 4) (by decide) (by decide) (by decide)
    have c60 : CPowW 10 60 := wide_pow (b := 4) (by decide) (by decide) (by decide)
    have e60 : (10 : Int) ^ (60 : Int).toNat = 1000000000000000000000000000000000000000000000000000000000000 := by decide +kernel
    walk_at "rd"
    intro p hp
    have x1 := Ex.new (o := HO.tup [.int 0, .int 27644437]) hp
    refine go_gtup (.inl (.inl upd_same)) rfl ?_
    refine ⟨_, _, rfl, _, _, rfl, rfl, ?_⟩
    dsimp only
    walk_at "rd"
    refine ⟨a, _, rfl, Evl.ex_l x1 hS, fun l hl => ?_⟩
    have x2 := Ex.new (o := HO.lst (cutV (ns.map V.int) none (some 63))) hl
    refine ⟨l, rfl, ⟨_, .inl (.inl upd_same)⟩, ?_⟩
    obtain ⟨ms, hms, lms⟩ : ∃ ms : List Int, cutV (ns.map V.int) none (some 63) = ms.map V.int ∧ ms.length ≤ 63 := by
      refine ⟨ns.take 63, ?_, by rw [List.length_take]; omega⟩
      unfold cutV
      rw [HT.sIx_none, show (some (63 : Int)) = some ((63 : Nat) : Int) from rfl, HT.sIx_nat, List.drop_zero, Nat.sub_zero, List.length_map, Nat.min_eq_right hn, List.map_take, List.take_of_length_le (by rw [List.length_map]; exact Nat.le_refl _), List.take_of_length_le (by rw [List.length_map]; exact hn)]
    rw [hms] at x2 ⊢
    refine run_forL (ms.map V.int) (fun i σ G => ∃ (d m : Int) (v3 v4 : Option V), σ = [some (.ref a), some (.int d), some (.int m), v3, v4] ∧ Ex (upd (upd H p (.tup [.int 0, .int 27644437])) l (.lst (ms.map V.int))) G ∧ 0 ≤ d ∧ d.natAbs < 2 ^ (200 * i + 1) ∧ 0 ≤ m ∧ m < 2 ^ 127) ?_ ?_ ?_ ?_
    · exact ⟨_, _, _, _, rfl, Ex.refl _, by decide, by decide, by decide, by decide⟩
    · rintro i σ G _ ⟨d, m, v3, v4, rfl, eG, _⟩
      exact .inl (.inl (eG _ _ upd_same))
    · rintro i v σ G hi ⟨d, m, v3, v4, rfl, eG, d0, d1, m0, m1⟩
      have il : i < 63 := by have := (List.getElem?_eq_some_iff.mp hi).1; rw [List.length_map] at this; omega
      rw [List.getElem?_map] at hi
      obtain ⟨cell, _, rfl⟩ := Option.map_eq_some_iff.mp hi
      have w : CMulW d (10 ^ (60 : Int).toNat) := wide_mul (a := 200 * i + 1) (b := 200) d1 (by rw [e60]; decide +kernel) (by omega) (by decide) (by omega)
      have more : ∀ D' : Ends, ∀ d2 : Int, 0 ≤ d2 → d2.natAbs < 2 ^ (200 * (i + 1) + 1) → True := fun _ _ _ _ => trivial
      refine go_name ?_
      dsimp only
      refine cut_s (fun σ' G' => ∃ d2 : Int, σ' = [some (.ref a), some (.int d2), some (.int m), some (.int cell), v4] ∧ G' = G ∧ 0 ≤ d2 ∧ d2.natAbs < 2 ^ (200 * (i + 1) + 1)) (fun D' _ _ _ hnx => ?_) ?_
      · walk_at "rd"
        refine ite2 (fun _ => ?_) (fun _ => ?_)
        · have p0 : 0 < (10 : Int) ^ (60 : Int).toNat := by rw [e60]; decide
          walk_at "rd"
          have r0 := Int.emod_nonneg (if cell < 0 then -cell else cell) (show (10 : Int) ^ (60 : Int).toNat ≠ 0 by omega)
          have r1 := Int.emod_lt_of_pos (if cell < 0 then -cell else cell) p0
          refine hnx _ _ ⟨_, rfl, rfl, ?_, ?_⟩
          · exact Int.add_nonneg (Int.mul_nonneg d0 (by omega)) r0
          · generalize (if cell < 0 then -cell else cell) % 10 ^ (60 : Int).toNat = r at *
            have e2 : (2 : Nat) ^ (200 * (i + 1) + 1) = 2 ^ (200 * i + 1) * 2 ^ 200 := by rw [← Nat.pow_add]; congr 1 <;> omega
            have h1 : d.natAbs + 1 ≤ 2 ^ (200 * i + 1) := d1
            have h2 := Nat.mul_le_mul h1 (show 1000000000000000000000000000000000000000000000000000000000000 ≤ 2 ^ 200 by decide +kernel)
            rw [e2]
            refine Nat.lt_of_lt_of_le ?_ h2
            rw [e60] at *
            omega
        · refine hnx _ _ ⟨d, rfl, rfl, d0, Nat.lt_of_lt_of_le d1 (Nat.pow_le_pow_right (by decide) (by omega))⟩
      rintro _ _ ⟨d2, rfl, rfl, d20, d21⟩
      walk_at "rd"
      exact ⟨_, _, _, _, rfl, eG, d20, d21, by omega, by omega⟩
    · rintro σ G ⟨d, m, v3, v4, rfl, eG, d0, d1, m0, m1⟩
      walk_at "rd"
      intro j hj
      have E := ((x1.trans x2).trans eG)
      exact k j _ (Evl.fresh_back E hj) (E.trans (Ex.new hj)) ⟨_, _, _, upd_same, m0, by omega, by decide, by decide⟩
abbrev s__law_draw : Stmt := top 61
theorem sc__law_draw : FnScope ["stock", "wide", "found", "grown"] ["stock", "wide"] (defScope s__law_draw) := ⟨rfl, rfl, rfl, by decide +kernel, rfl, by decide +kernel, by decide +kernel⟩
theorem ok_tap {f : Addr} {fd : FuncData} (F : Fun K "_law_draw" "_law_draw" s__law_draw f fd) (m_int : mg "int" = none) :
    FnOk P w K mg base CX0 1 f fd ["stock", "wide"] spPick := by
  refine F.ok sc__law_draw (fun vs H Q E h => ?_) (fun cdv A outer s H vs Q E hr h => ?_)
  · obtain ⟨j, bound, n, rfl, _⟩ := h
    rfl
  · obtain ⟨j, bound, n, rfl, ⟨a, b, c, hj, b0, b1, c0, c1⟩, hn, hb0, hb1, k⟩ := h
    refine ⟨_, (pss_cons (ps_if (pt_cmpR op_gt (pe_ix ix_list (pv 0) pe_int (fun _ _ => rfl)) pe_int (nomark _))
  (pss_cons (ps_set (i := 2) sc__law_draw.nd rfl (Or.inl rfl) (pe_op op_mod (pe_callTy call_intQ rfl m_int boot_int (pa_cons (pe_ix ix_list (pv 0) pe_int (fun _ _ => rfl)) pa_nil)) (pv 1)))
  (pss_cons (ps_asg (pe_op op_fdivW (pe_ix ix_list (pv 0) pe_int (fun _ _ => rfl)) (pv 1)) (pg_sub (pv 0) pe_int set_list))
  (pss_one (ps_ret (pv 2)))))
  pss_nil)
  (pss_cons (ps_asg (pe_op op_add (pe_ix ix_list (pv 0) pe_int (fun _ _ => rfl)) pe_int) (pg_sub (pv 0) pe_int set_list))
  (pss_cons (ps_set (i := 3) sc__law_draw.nd rfl (Or.inl rfl) (pe_op op_add (pe_ix ix_list (pv 0) pe_int (fun _ _ => rfl)) (pe_op op_mul pe_int (pe_ix ix_list (pv 0) pe_int (fun _ _ => rfl)))))
  (pss_cons (ps_set (i := 3) sc__law_draw.nd rfl (Or.inl rfl) (pe_op op_add (pe_op op_mod (pe_callTy call_intQ rfl m_int boot_int (pa_cons (pe_op op_powW (pv 3) pe_int) pa_nil)) pe_int) (pe_op op_mul pe_int (pe_ix ix_list (pv 0) pe_int (fun _ _ => rfl)))))
  (pss_cons (ps_set (i := 3) sc__law_draw.nd rfl (Or.inl rfl) (pe_op op_mod (pe_callTy call_intQ rfl m_int boot_int (pa_cons (pe_op op_powW (pv 3) pe_int) pa_nil)) pe_int))
  (pss_one (ps_ret (pe_op op_mod (pe_callTy call_intQ rfl m_int boot_int (pa_cons (pe_op op_fdiv (pv 3) pe_int) pa_nil)) (pv 1))))))))), ?_⟩
    walk_at "rd"
    refine ite2 (fun h => ?_) (fun h => ?_)
    · -- the digits of the cell
      have ha : 0 < a := by simpa using h
      have hd : CDivW a bound := wide_div (b := 400) hb0 (by omega) (by decide) (by decide)
      walk_at "rd"
      exact k _ _ (Int.emod_nonneg _ (by omega)) (Int.emod_lt_of_pos _ hb0) ⟨_, b, c, upd_same, b0, b1, c0, by omega⟩ (Jx.upd (by simp))
    · have q1 : CPowW (b + 1000000000000000003 * (c + 1)) 2 := wide_pow (b := 200) (by omega) (by decide) (by decide)
      have q2 : ∀ z : Int, CPowW (z % 170141183460469231731687303715884105727 + 999999000001 * (c + 1)) 3 := fun z => wide_pow (b := 200) (by omega) (by decide) (by decide)
      walk_at "rd"
      refine go_I (q2 _) ?_
      walk_at "rd"
      refine k _ _ (Int.emod_nonneg _ (by omega)) (Int.emod_lt_of_pos _ hb0) ⟨a, b, c + 1, upd_same, b0, b1, by omega, by omega⟩ (Jx.upd (by simp))
end
end Kx

set_option Elab.async false
set_option linter.all false
set_option maxRecDepth 100000
set_option maxHeartbeats 2000000

namespace Kx
open PySem PySem.Spec PyProof.Rows L2 HX
open Evl (Ex)
/-! ### receivers as data -/
inductive Stg where
  | mix (lo : Int) | dial (add : Int) | pass (lo hi : Int)
def Stg.d : Stg → PyData
  | .mix lo => .tuple [.str "mix", .int lo]
  | .dial a => .tuple [.str "dial", .int a]
  | .pass lo hi => .tuple [.str "pass", .int lo, .int hi]
def Stg.ok (b : Int) : Stg → Prop
  | .mix lo => 0 ≤ lo ∧ lo ≤ b
  | .dial a => -b ≤ a ∧ a ≤ b
  | .pass lo hi => 0 ≤ lo ∧ lo ≤ hi ∧ hi ≤ b
def Stg.isDial : Stg → Bool
  | .dial _ => true
  | _ => false
def dials (ss : List Stg) : Nat := (ss.filter Stg.isDial).length
def rateD : Option Int → PyData
  | none => .none
  | some r => .int r
structure Rad (b : Int) (ss : List Stg) (rate : Option Int) : Prop where
  ne : ss ≠ []
  le : ss.length ≤ 8
  ok : ∀ s ∈ ss, s.ok b
  one : dials ss ≤ 1
  rate : ∀ r, rate = some r → 2 ≤ r ∧ r ≤ b
def radD (ss : List Stg) (rate : Option Int) : PyData := .tuple [.list (ss.map Stg.d), rateD rate]
/-- a stage's tuple at a -/
theorem stg_at {H : Hp} {v : V} {s : Stg} (h : Dq H v s.d) : ∃ a, v = .ref a ∧ match s with
    | .mix lo => Rd H a (.tup [.str "mix", .int lo])
    | .dial x => Rd H a (.tup [.str "dial", .int x])
    | .pass lo hi => Rd H a (.tup [.str "pass", .int lo, .int hi]) := by
  cases s with
  | mix lo => cases h with | tup h1 h2 => cases h2 with | cons q1 q2 => cases q1; cases q2 with | cons q3 q4 => cases q3; cases q4; exact ⟨_, rfl, h1⟩
  | dial lo => cases h with | tup h1 h2 => cases h2 with | cons q1 q2 => cases q1; cases q2 with | cons q3 q4 => cases q3; cases q4; exact ⟨_, rfl, h1⟩
  | pass lo hi => cases h with | tup h1 h2 => cases h2 with | cons q1 q2 => cases q1; cases q2 with | cons q3 q4 => cases q3; cases q4 with | cons q5 q6 => cases q5; cases q6; exact ⟨_, rfl, h1⟩
def Stg.vals : Stg → List V
  | .mix lo => [.str "mix", .int lo]
  | .dial x => [.str "dial", .int x]
  | .pass lo hi => [.str "pass", .int lo, .int hi]
theorem dq_stg {S : List Addr} {G : Hp} {q : Addr} {s : Stg} (h : G q = some (.tup s.vals)) (hq : q ∉ S) : Dq (hid S G) (.ref q) s.d := by
  have h' : hid S G q = some (.tup s.vals) := by rw [hid_ne hq]; exact h
  cases s with
  | mix lo => exact .tup (.inl h') (.cons (.str _) (.cons (.int _) .nil))
  | dial x => exact .tup (.inl h') (.cons (.str _) (.cons (.int _) .nil))
  | pass lo hi => exact .tup (.inl h') (.cons (.str _) (.cons (.int _) (.cons (.int _) .nil)))
theorem dials_app (ss : List Stg) (s : Stg) : dials (ss ++ [s]) = dials ss + (if s.isDial then 1 else 0) := by
  unfold dials
  rw [List.filter_append, List.length_append, List.filter_cons]
  split <;> rfl
def spRadio : Sp := fun vs H Q _ => ∃ (j : Addr) (most far : Int) (n : Nat), vs = [.ref j, .int most, .int far] ∧ JarAt n H j ∧ n < 2 ^ 40 ∧ 1 ≤ most ∧ most ≤ 8 ∧ 1 ≤ far ∧ far < 2 ^ 200 ∧
  ∀ (p : Addr) (ss : List Stg) (rate : Option Int) (H' : Hp), Rad (10 * far + 20) ss rate → ss.length ≤ most.toNat → Dq (hid [j] H') (.ref p) (radD ss rate) → H p = none → JarAt (n + 100) H' j → Jx [j] H H' → Q (.ref p) H'
local macro_rules | `(tactic| walk_at "side") => `(tactic| first | assumption | ((try dsimp only); first | assumption | decide +kernel | omega | exact ⟨by decide, by decide⟩ | (left; decide) | (left; omega) | (refine Or.inl ⟨?_, ?_⟩ <;> omega) | (refine Or.inr ⟨?_, ?_⟩ <;> omega)))
local macro_rules | `(tactic| walk_at "heap") => `(tactic| first | assumption | exact upd_same | exact Or.inl (by assumption) | exact Or.inl upd_same)
local macro_rules | `(tactic| walk_at "item") => `(tactic| first | exact rfl | exact atI_nat (j := 0) rfl | exact atI_nat (j := 1) rfl | exact atI_nat (j := 2) rfl | assumption)
local macro_rules | `(tactic| walk_at "rd") => `(tactic| repeat (first
  | ((with_reducible refine' go_var ?hv ?_); (case hv => exact rfl))
  | with_reducible refine' go_c ?_
  | with_reducible refine' go_op ?_
  | with_reducible refine' go_seq ?_
  | with_reducible refine' go_asg ?_
  | with_reducible refine' go_name ?_
  | with_reducible refine' go_cons ?_
  | with_reducible refine' go_nil ?_
  | with_reducible refine' go_cb ?_
  | with_reducible refine' go_call ?_
  | with_reducible refine' go_ifS ?_
  | with_reducible refine' go_test ?_
  | with_reducible refine' go_bl ?_
  | with_reducible refine' go_ret ?_
  | with_reducible refine' go_I0 ?_
  | ((with_reducible refine' go_I ?cc ?_); (case cc => walk_at "side"))
  | ((with_reducible refine' go_ixL ?hh ?hk ?_); (case hh => walk_at "heap"); (case hk => walk_at "item"))
  | ((with_reducible refine' go_ixT ?hh ?hk ?_); (case hh => walk_at "heap"); (case hk => walk_at "item"))
  | ((with_reducible refine' go_lenL ?hh ?_); (case hh => walk_at "heap"))
  | ((with_reducible refine' go_lenT ?hh ?_); (case hh => walk_at "heap"))
  | ((with_reducible refine' go_setL ?hh ?hk ?_); (case hh => walk_at "heap"); (case hk => walk_at "item"))
  | with_reducible refine' go_abs ?_
  | with_reducible refine' go_max ?_
  | with_reducible refine' go_min ?_
  | with_reducible refine' go_int ?_
  | with_reducible refine' go_intB ?_
  | (with_reducible refine' go_eq rfl ?_)
  | (with_reducible refine' go_ne rfl ?_)
  | with_reducible refine' go_isN ?_
  | with_reducible refine' go_notN ?_
  | with_reducible refine' go_if ?_
  | with_reducible refine' go_sub ?_
  | with_reducible refine' go_par ?_
  | with_reducible refine' go_sl ?_
  | with_reducible refine' go_part ?_
  | with_reducible refine' go_pint ?_
  | with_reducible refine' go_nopart ?_
  | ((with_reducible refine' go_lenL ?hh ?_); (case hh => walk_at "heap"))
  | ((with_reducible refine' go_lenT ?hh ?_); (case hh => walk_at "heap"))
  | ((with_reducible refine' go_lenS ?hh ?_); (case hh => assumption))
  | with_reducible refine' go_gcons ?_
  | with_reducible refine' go_gnil ?_
  | with_reducible refine' go_kw ?_
  | with_reducible refine' go_par2 ?_
  | with_reducible refine' go_next ?_
  | with_reducible refine' go_drop ?_
  | with_reducible refine' go_and ?_
  | with_reducible refine' go_or ?_
  | with_reducible refine' go_not ?_
  | with_reducible refine' go_B ?_
  | with_reducible refine' go_andV ?_
  | with_reducible refine' go_orV ?_
  | with_reducible refine' go_notV ?_
  | with_reducible refine' go_chain ?_
  | with_reducible refine' go_un ?_
  | with_reducible refine' go_U ?_
  | with_reducible refine' go_bm ?_
  | with_reducible refine' go_tup ?_
  | with_reducible refine' go_lst ?_
  | with_reducible refine' go_forR1 ?_
  | with_reducible refine' go_forR2 ?_
  | with_reducible refine' go_forL ?_
  | with_reducible refine' go_forT ?_
  | with_reducible refine' go_forE ?_
  | with_reducible refine' go_lcR1 ?_
  | with_reducible refine' go_lcL ?_
  | with_reducible refine' go_lcT ?_
  | ((with_reducible refine' go_tyL ?hh ?_); (case hh => walk_at "heap"))
  | ((with_reducible refine' go_new ?hz ?_); (case hz => exact Nat.le_of_ble_eq_true rfl))
  | (with_reducible refine' ⟨_, rfl, ?_⟩)
  ))
--MACEND
section
variable {P : Program} {w : World} {K : PySem.W.Frag} {mg : Str → Option Value} {base : Heap}
/-- what stands between two laps: the list at l holds the data ss, of which no more than one is a dial, none before the lap `spot` -/
structure Lap (b : Int) (S : List Addr) (l : Addr) (i : Nat) (spot : Int) (H : Hp) (vs : List V) (ss : List Stg) : Prop where
  at_ : H l = some (.lst vs)
  da : DqAll (hid S H) vs (ss.map Stg.d)
  len : ss.length = i
  ok : ∀ s ∈ ss, s.ok b
  one : dials ss ≤ if spot < i then 1 else 0
theorem Lap.jar {b : Int} {S : List Addr} {l : Addr} {i : Nat} {spot : Int} {H H' : Hp} {vs : List V} {ss : List Stg} (h : Lap b S l i spot H vs ss) (e : Jx S H H') (hl : H' l = H l) : Lap b S l i spot H' vs ss :=
  ⟨hl.trans h.at_, e.dqa h.da, h.len, h.ok, h.one⟩
/-- one more stage -/
theorem Lap.app {b : Int} {S : List Addr} {l : Addr} {i : Nat} {spot : Int} {H : Hp} {vs : List V} {ss : List Stg} {v : V} {s : Stg} (h : Lap b S l i spot H vs ss) (hS : l ∈ S) (hv : Dq (hid S H) v s.d) (hs : s.ok b)
    (hd : s.isDial = true → (i : Int) = spot) : Lap b S l (i + 1) spot (upd H l (.lst (vs ++ [v]))) (vs ++ [v]) (ss ++ [s]) := by
  refine ⟨upd_same, ?_, by rw [List.length_append, h.len]; rfl, fun x hx => ?_, ?_⟩
  · rw [hid_upd hS, List.map_append]
    exact h.da.app (.one hv)
  · rcases List.mem_append.mp hx with hx | hx
    · exact h.ok x hx
    · rw [List.mem_singleton.mp hx]; exact hs
  · have h1 := h.one
    rw [dials_app]
    by_cases q : s.isDial = true
    · have := hd q
      rw [if_pos q, if_pos (by omega)]
      rw [if_neg (by omega)] at h1
      omega
    · rw [if_neg q]
      by_cases z : spot < (i : Int)
      · rw [if_pos z] at h1; rw [if_pos (by omega)]; omega
      · rw [if_neg z] at h1
        have : dials ss = 0 := by omega
        rw [this]
        split <;> omega
theorem Jx_free {S : List Addr} {H H' : Hp} {t : Addr} (e : Jx S H H') (h : H' t = none) (ht : ∀ s ∈ S, H' s ≠ none) : H t = none := by
  cases q : H t with
  | none => rfl
  | some o =>
    have := e.get q fun z => ht t z h
    rw [h] at this
    cases this
theorem dqa_snoc {H : Hp} : ∀ {vs : List V} {ds : List PyData} {d : PyData}, DqAll H vs (ds ++ [d]) → ∃ vs0 v, vs = vs0 ++ [v] ∧ DqAll H vs0 ds ∧ Dq H v d
  | _, [], d, .cons (v := v) h k => by cases k; exact ⟨[], v, rfl, .nil, h⟩
  | _, e :: ds, d, .cons (v := v) h k => by
    obtain ⟨vs0, w, rfl, h1, h2⟩ := dqa_snoc k
    exact ⟨v :: vs0, w, rfl, .cons h h1, h2⟩
theorem stgs_nil (ss : List Stg) : PyData.eqv (.list (ss.map Stg.d)) (.list []) = ss.isEmpty := by cases ss <;> simp [PyData.eqv, PyData.eqvAll]
/-- the name of a stage -/
def Stg.nm : Stg → Str
  | .mix _ => "mix"
  | .dial _ => "dial"
  | .pass _ _ => "pass"
theorem stg_nm {H : Hp} {v : V} {s : Stg} (h : Dq H v s.d) : ∃ a xs, v = .ref a ∧ Rd H a (.tup xs) ∧ atI xs 0 = some (.str s.nm) := by
  obtain ⟨a, rfl, h⟩ := stg_at h
  cases s with
  | mix lo => exact ⟨_, _, rfl, h, rfl⟩
  | dial lo => exact ⟨_, _, rfl, h, rfl⟩
  | pass lo hi => exact ⟨_, _, rfl, h, rfl⟩
theorem nm_dial (s : Stg) : decide (V.str s.nm = V.str "dial") = s.isDial := by
  cases s with
  | mix lo => exact (by decide +kernel : decide (V.str "mix" = V.str "dial") = false)
  | dial lo => exact (by decide +kernel : decide (V.str "dial" = V.str "dial") = true)
  | pass lo hi => exact (by decide +kernel : decide (V.str "pass" = V.str "dial") = false)
theorem strs_ok : PyData.strOk "mix" = true ∧ PyData.strOk "dial" = true ∧ PyData.strOk "pass" = true := by decide +kernel
theorem lay_stg : ∀ s : Stg, s.d.canLay0 = true
  | .mix lo => by simp [Stg.d, PyData.canLay0, PyData.canLayAll0, strs_ok]
  | .dial lo => by simp [Stg.d, PyData.canLay0, PyData.canLayAll0, strs_ok]
  | .pass lo hi => by simp [Stg.d, PyData.canLay0, PyData.canLayAll0, strs_ok]
theorem depth_stg : ∀ s : Stg, s.d.depth = 1
  | .mix lo => rfl
  | .dial lo => rfl
  | .pass lo hi => rfl
theorem lay_stgs : ∀ ss : List Stg, PyData.canLayAll0 (ss.map Stg.d) = true ∧ PyData.depthAll (ss.map Stg.d) ≤ 1
  | [] => ⟨rfl, Nat.zero_le _⟩
  | s :: ss => by
    obtain ⟨h1, h2⟩ := lay_stgs ss
    refine ⟨by rw [List.map_cons, PyData.canLayAll0, lay_stg, h1]; rfl, ?_⟩
    rw [List.map_cons, PyData.depthAll, depth_stg]
    omega
theorem shaped_stgs (ss : List Stg) : SeqAt.shaped (.list (ss.map Stg.d)) = true := by
  obtain ⟨h1, h2⟩ := lay_stgs ss
  unfold SeqAt.shaped
  rw [Bool.and_eq_true]
  refine ⟨by simpa [PyData.canLay0] using h1, decide_eq_true ?_⟩
  rw [PyData.depth]
  omega
theorem menu_int (xs : List Int) (lo hi : Int) {u : Int} (h0 : 0 ≤ u) (h1 : u < xs.length) (hb : ∀ x ∈ xs, lo ≤ x ∧ x ≤ hi) : ∃ x, atI (xs.map V.int) u = some (.int x) ∧ lo ≤ x ∧ x ≤ hi := by
  obtain ⟨k, rfl⟩ : ∃ k : Nat, u = k := ⟨u.toNat, by omega⟩
  have hk : k < xs.length := by omega
  exact ⟨xs[k], atI_nat (by rw [List.getElem?_map, List.getElem?_eq_getElem hk]; rfl), hb _ (List.getElem_mem hk)⟩
theorem JarAt.obj {n : Nat} {H : Hp} {j : Addr} (h : JarAt n H j) : ∃ o, H j = some o := let ⟨_, _, _, h, _⟩ := h; ⟨_, h⟩
theorem JarAt.fresh {n : Nat} {H H' : Hp} {j t : Addr} (J : JarAt n H' j) (e : Jx [j] H H') (h : H' t = none) : H t = none :=
  Jx_free e h fun s hs z => by
    obtain rfl : s = j := by simpa using hs
    obtain ⟨o, q⟩ := J.obj
    rw [z] at q
    cases q
theorem JarAt.keep {n : Nat} {H H' : Hp} {j : Addr} (h : JarAt n H j) (e : H' j = H j) : JarAt n H' j := let ⟨a, b, c, h, r⟩ := h; ⟨a, b, c, e.trans h, r⟩
theorem pick_go {j : Addr} {bound : Int} {n : Nat} {H : Hp} {Q : VK} {E : XK} (hJ : JarAt n H j) (hn : n < 2 ^ 50) (h0 : 0 < bound) (h1 : bound < 2 ^ 400)
    (k : ∀ (r : Int) (H' : Hp), 0 ≤ r → r < bound → JarAt (n + 1) H' j → Jx [j] H H' → Q (.int r) H') : spPick ([.ref j, .int bound] ++ []) H Q E := ⟨j, bound, n, rfl, hJ, hn, h0, h1, k⟩
theorem Lap.lay {b : Int} {S : List Addr} {l p : Addr} {i : Nat} {spot : Int} {H : Hp} {o : HO} {vs : List V} {ss : List Stg} (h : Lap b S l i spot H vs ss) (hp : H p = none) : Lap b S l i spot (upd H p o) vs ss :=
  h.jar (Jx.new hp) (upd_ne (fresh_ne h.at_ hp).symm)
theorem Lap.pick {b : Int} {l j : Addr} {i : Nat} {spot : Int} {H H' : Hp} {vs : List V} {ss : List Stg} (h : Lap b [l, j] l i spot H vs ss) (hlj : l ≠ j) (e : Jx [j] H H') : Lap b [l, j] l i spot H' vs ss :=
  h.jar (e.more (by simp)) ((e.get h.at_ (nin1 hlj)).trans h.at_.symm)
end
end Kx

set_option Elab.async false
set_option linter.all false
set_option maxRecDepth 100000
set_option maxHeartbeats 2000000

namespace Kx
open PySem PySem.Spec PyProof.Rows L2 HX
open Evl (Ex)
local macro_rules | `(tactic| walk_at "side") => `(tactic| first | assumption | ((try dsimp only); first | assumption | decide +kernel | omega | exact ⟨by decide, by decide⟩ | (left; decide) | (left; omega) | (refine Or.inl ⟨?_, ?_⟩ <;> omega) | (refine Or.inr ⟨?_, ?_⟩ <;> omega)))
local macro_rules | `(tactic| walk_at "heap") => `(tactic| first | assumption | exact upd_same | exact Or.inl (by assumption) | exact Or.inl upd_same)
local macro_rules | `(tactic| walk_at "item") => `(tactic| first | exact rfl | exact atI_nat (j := 0) rfl | exact atI_nat (j := 1) rfl | exact atI_nat (j := 2) rfl | assumption)
local macro_rules | `(tactic| walk_at "rd") => `(tactic| repeat (first
  | ((with_reducible refine' go_var ?hv ?_); (case hv => exact rfl))
  | with_reducible refine' go_c ?_
  | with_reducible refine' go_op ?_
  | with_reducible refine' go_seq ?_
  | with_reducible refine' go_asg ?_
  | with_reducible refine' go_name ?_
  | with_reducible refine' go_cons ?_
  | with_reducible refine' go_nil ?_
  | with_reducible refine' go_cb ?_
  | with_reducible refine' go_call ?_
  | with_reducible refine' go_ifS ?_
  | with_reducible refine' go_test ?_
  | with_reducible refine' go_bl ?_
  | with_reducible refine' go_ret ?_
  | with_reducible refine' go_I0 ?_
  | ((with_reducible refine' go_I ?cc ?_); (case cc => walk_at "side"))
  | ((with_reducible refine' go_ixL ?hh ?hk ?_); (case hh => walk_at "heap"); (case hk => walk_at "item"))
  | ((with_reducible refine' go_ixT ?hh ?hk ?_); (case hh => walk_at "heap"); (case hk => walk_at "item"))
  | ((with_reducible refine' go_lenL ?hh ?_); (case hh => walk_at "heap"))
  | ((with_reducible refine' go_lenT ?hh ?_); (case hh => walk_at "heap"))
  | ((with_reducible refine' go_setL ?hh ?hk ?_); (case hh => walk_at "heap"); (case hk => walk_at "item"))
  | with_reducible refine' go_abs ?_
  | with_reducible refine' go_max ?_
  | with_reducible refine' go_min ?_
  | with_reducible refine' go_int ?_
  | with_reducible refine' go_intB ?_
  | (with_reducible refine' go_eq rfl ?_)
  | (with_reducible refine' go_ne rfl ?_)
  | with_reducible refine' go_isN ?_
  | with_reducible refine' go_notN ?_
  | with_reducible refine' go_if ?_
  | with_reducible refine' go_sub ?_
  | with_reducible refine' go_par ?_
  | with_reducible refine' go_sl ?_
  | with_reducible refine' go_part ?_
  | with_reducible refine' go_pint ?_
  | with_reducible refine' go_nopart ?_
  | ((with_reducible refine' go_lenL ?hh ?_); (case hh => walk_at "heap"))
  | ((with_reducible refine' go_lenT ?hh ?_); (case hh => walk_at "heap"))
  | ((with_reducible refine' go_lenS ?hh ?_); (case hh => assumption))
  | with_reducible refine' go_gcons ?_
  | with_reducible refine' go_gnil ?_
  | with_reducible refine' go_kw ?_
  | with_reducible refine' go_par2 ?_
  | with_reducible refine' go_next ?_
  | with_reducible refine' go_drop ?_
  | with_reducible refine' go_and ?_
  | with_reducible refine' go_or ?_
  | with_reducible refine' go_not ?_
  | with_reducible refine' go_B ?_
  | with_reducible refine' go_andV ?_
  | with_reducible refine' go_orV ?_
  | with_reducible refine' go_notV ?_
  | with_reducible refine' go_chain ?_
  | with_reducible refine' go_un ?_
  | with_reducible refine' go_U ?_
  | with_reducible refine' go_bm ?_
  | with_reducible refine' go_tup ?_
  | with_reducible refine' go_lst ?_
  | with_reducible refine' go_forR1 ?_
  | with_reducible refine' go_forR2 ?_
  | with_reducible refine' go_forL ?_
  | with_reducible refine' go_forT ?_
  | with_reducible refine' go_forE ?_
  | with_reducible refine' go_lcR1 ?_
  | with_reducible refine' go_lcL ?_
  | with_reducible refine' go_lcT ?_
  | ((with_reducible refine' go_tyL ?hh ?_); (case hh => walk_at "heap"))
  | ((with_reducible refine' go_new ?hz ?_); (case hz => exact Nat.le_of_ble_eq_true rfl))
  | (with_reducible refine' ⟨_, rfl, ?_⟩)
  ))
--MACEND
def isInt : PyData → Bool
  | .int _ => true
  | _ => false
def isNat : PyData → Bool
  | .int i => decide (0 ≤ i)
  | _ => false
def isBand : PyData → Bool
  | .tuple [.int a, .int b] => decide (0 ≤ a) && decide (0 ≤ b) && decide (a ≤ b)
  | _ => false
def isStage : PyData → Bool
  | .tuple (.str k :: d :: ds) => if k = "mix" then ds.isEmpty && isNat d else if k = "dial" then ds.isEmpty && isInt d else decide (k = "pass") && isBand (.tuple (d :: ds))
  | _ => false
def isRate : PyData → Bool
  | .none => true
  | .int i => decide (2 ≤ i)
  | _ => false
def isFrame : PyData → Bool
  | .tuple [.list ss, _] => decide (1 ≤ ss.length) && decide (ss.length ≤ 8)
  | _ => false
/-- a look at one thing -/
def spLook (f : PyData → Bool) : Sp := fun vs H Q _ => ∃ x d, vs = [x] ∧ Dq H x d ∧ ∀ H', Ex H H' → Q (.bl (f d)) H'
theorem look_go {f : PyData → Bool} {x : V} {d : PyData} {H : Hp} {Q : VK} {E : XK} (h : Dq H x d) (k : ∀ H', Ex H H' → Q (.bl (f d)) H') : spLook f ([x] ++ []) H Q E := ⟨x, d, rfl, h, k⟩
section
variable {P : Program} {w : World} {K : PySem.W.Frag} {mg : Str → Option Value} {base : Heap}
abbrev s_is_integer : Stmt := top 17
theorem sc_is_integer : FnScope ["value"] ["value"] (defScope s_is_integer) := ⟨rfl, rfl, rfl, by decide +kernel, rfl, by decide +kernel, by decide +kernel⟩
theorem ok_is_integer {f : Addr} {fd : FuncData} (F : Fun K "is_integer" "is_integer" s_is_integer f fd) (m_isinstance : mg "isinstance" = none) (m_int : mg "int" = none) (m_bool : mg "bool" = none) :
    FnOk P w K mg base CX0 1 f fd ["value"] (spLook isInt) := by
  refine F.ok sc_is_integer (fun vs H Q E h => ?_) (fun cdv A outer s H vs Q E hr h => ?_)
  · obtain ⟨x, d, rfl, _⟩ := h
    rfl
  · obtain ⟨x, d, rfl, hd, k⟩ := h
    refine ⟨_, (pss_one (ps_ret (pe_and (pe_callB call_isi rfl m_isinstance (by decide +kernel) (pa_cons (pv 0) (pa_cons (pe_bltn (v := .ty "int") (u := .type "int") rfl m_int (by decide +kernel) rfl) pa_nil))) (pe_one (pe_not (pe_callB call_isi rfl m_isinstance (by decide +kernel) (pa_cons (pv 0) (pa_cons (pe_bltn (v := .ty "bool") (u := .type "bool") rfl m_bool (by decide +kernel) rfl) pa_nil)))))))), ?_⟩
    walk_at "rd"
    refine go_isi hd (kit_int d) ?_
    walk_at "rd"
    have two : isInt d = !pBool d → rIsi K [x, .ty "bool"] H fun v H' => ∃ c, v = .bl c ∧ Q (.bl (!c)) H' := fun e =>
      go_isi hd (kit_bool d) ⟨_, rfl, by rw [← e]; exact k H (Ex.refl H)⟩
    cases d with
    | int i =>
      refine iteT ?_
      walk_at "rd"
      exact two rfl
    | bool b =>
      refine iteT ?_
      walk_at "rd"
      exact two rfl
    | none => exact iteF (k _ (Ex.refl _))
    | str y => exact iteF (k _ (Ex.refl _))
    | list ds => exact iteF (k _ (Ex.refl _))
    | tuple ds => exact iteF (k _ (Ex.refl _))
    | dict ds => exact iteF (k _ (Ex.refl _))
abbrev s_is_natural : Stmt := top 18
theorem sc_is_natural : FnScope ["value"] ["value"] (defScope s_is_natural) := ⟨rfl, rfl, rfl, by decide +kernel, rfl, by decide +kernel, by decide +kernel⟩
theorem ok_is_natural {f : Addr} {fd : FuncData} (F : Fun K "is_natural" "is_natural" s_is_natural f fd) (h_is_integer : Has P w K mg base 1 "is_integer" (spLook isInt)) :
    FnOk P w K mg base CX0 2 f fd ["value"] (spLook isNat) := by
  refine F.ok sc_is_natural (fun vs H Q E h => ?_) (fun cdv A outer s H vs Q E hr h => ?_)
  · obtain ⟨x, d, rfl, _⟩ := h
    rfl
  · obtain ⟨x, d, rfl, hd, k⟩ := h
    refine ⟨_, (pss_one (ps_ret (pe_and (pe_hs h_is_integer hr rfl (pa_cons (pv 0) pa_nil)) (pe_one (pe_cmpR op_ge (pv 0) pe_int (nomark _)))))), ?_⟩
    walk_at "rd"
    refine look_go hd fun H1 e1 => ?_
    walk_at "rd"
    cases d with
    | int i =>
      cases hd
      refine iteT ?_
      walk_at "rd"
      exact k _ e1
    | bool b => exact iteF (k _ e1)
    | none => exact iteF (k _ e1)
    | str y => exact iteF (k _ e1)
    | list ds => exact iteF (k _ e1)
    | tuple ds => exact iteF (k _ e1)
    | dict ds => exact iteF (k _ e1)
theorem nat_int {d : PyData} (h : isNat d = true) : ∃ i : Int, d = .int i ∧ 0 ≤ i := by
  cases d <;> simp [isNat] at h
  exact ⟨_, rfl, h⟩
theorem dqa2 {H : Hp} {vs : List V} {ds : List PyData} (h : DqAll H vs ds) (hl : ds.length = 2) : ∃ a b d e, vs = [a, b] ∧ ds = [d, e] ∧ Dq H a d ∧ Dq H b e := by
  cases h with
  | nil => simp at hl
  | cons h1 h2 => cases h2 with
    | nil => simp at hl
    | cons h3 h4 => cases h4 with
      | nil => exact ⟨_, _, _, _, rfl, rfl, h1, h3⟩
      | cons _ _ => simp at hl
abbrev s_is_band : Stmt := top 19
theorem sc_is_band : FnScope ["value", "least", "greatest"] ["value"] (defScope s_is_band) := ⟨rfl, rfl, rfl, by decide +kernel, rfl, by decide +kernel, by decide +kernel⟩
theorem ok_is_band {f : Addr} {fd : FuncData} (F : Fun K "is_band" "is_band" s_is_band f fd) (m_isinstance : mg "isinstance" = none) (m_tuple : mg "tuple" = none) (m_len : mg "len" = none) (h_is_natural : Has P w K mg base 2 "is_natural" (spLook isNat)) :
    FnOk P w K mg base CX0 3 f fd ["value"] (spLook isBand) := by
  refine F.ok sc_is_band (fun vs H Q E h => ?_) (fun cdv A outer s H vs Q E hr h => ?_)
  · obtain ⟨x, d, rfl, _⟩ := h
    rfl
  · obtain ⟨x, d, rfl, hd, k⟩ := h
    refine ⟨_, (pss_cons (ps_if (PW.pt (pw_or (pt_not (pt_val (pe_callB call_isi rfl m_isinstance (by decide +kernel) (pa_cons (pv 0) (pa_cons (pe_bltn (v := .ty "tuple") (u := .type "tuple") rfl m_tuple (by decide +kernel) rfl) pa_nil))))) (pw_or1 (pt_cmpR op_ne (pe_callB call_lenQ rfl m_len PySem.boot_len (pa_cons (pv 0) pa_nil)) pe_int (nomark _)))))
  (pss_one (ps_ret pe_bl))
  pss_nil)
  (pss_cons (ps_asg (pv 0) (pg_tup (by rfl) (pgs_cons (pg_name (i := 1) sc_is_band.nd rfl (Or.inl rfl)) (pgs_cons (pg_name (i := 2) sc_is_band.nd rfl (Or.inl rfl)) pgs_nil))))
  (pss_one (ps_ret (pe_and (pe_hs h_is_natural hr rfl (pa_cons (pv 1) pa_nil)) (pe_and (pe_hs h_is_natural hr rfl (pa_cons (pv 2) pa_nil)) (pe_one (pe_cmpR op_le (pv 1) (pv 2) (nomark _))))))))), ?_⟩
    walk_at "rd"
    refine go_isi hd (kit_tuple d) ?_
    walk_at "rd"
    rcases tuple_or d with ⟨ds, rfl⟩ | hn
    · obtain ⟨a, xs, rfl, ha, hda⟩ := hd.tupleAt
      have hl := hda.len
      refine iteF ?_
      walk_at "rd"
      by_cases h2 : ds.length = 2
      · obtain ⟨b, c, d, e, rfl, rfl, hb, hc⟩ := dqa2 hda h2
        refine iteNS rfl ?_
        walk_at "rd"
        refine go_gtup (.inl ha) rfl ?_
        walk_at "rd"
        refine look_go hb fun H1 e1 => ?_
        walk_at "rd"
        cases hd1 : isNat d with
        | false =>
          refine iteF ?_
          have e : isBand (.tuple [d, e]) = false := by
            cases d <;> cases e <;> simp [isBand, isNat] at *
            omega
          rw [← e]
          exact k _ e1
        | true =>
          obtain ⟨i, rfl, hi⟩ := nat_int hd1
          refine iteT ?_
          walk_at "rd"
          refine look_go (hc.ex e1) fun H2 e2 => ?_
          walk_at "rd"
          cases hd2 : isNat e with
          | false =>
            refine iteF ?_
            have e : isBand (.tuple [.int i, e]) = false := by
              cases e <;> simp [isBand, isNat] at *
              omega
            rw [← e]
            exact k _ (e1.trans e2)
          | true =>
            obtain ⟨j, rfl, hj⟩ := nat_int hd2
            cases hb
            cases hc
            refine iteT ?_
            walk_at "rd"
            have e : isBand (.tuple [.int i, .int j]) = decide (i ≤ j) := by simp [isBand, hi, hj]
            rw [← e]
            exact k _ (e1.trans e2)
      · have hne : (!decide (V.int (xs.length : Int) = V.int 2)) = true := by
          simp
          omega
        rw [hne]
        refine iteT ?_
        walk_at "rd"
        have e : isBand (.tuple ds) = false := by
          match ds, h2 with
          | [], _ => rfl
          | [x], _ => cases x <;> rfl
          | [_, _], h => exact absurd rfl h
          | x :: y :: _ :: _, _ => cases x <;> first | rfl | (cases y <;> rfl)
        rw [← e]
        exact k _ (Ex.refl _)
    · rw [hn]
      refine iteT (iteT ?_)
      walk_at "rd"
      have e : isBand d = false := by cases d <;> first | rfl | simp [pTuple] at hn
      rw [← e]
      exact k _ (Ex.refl _)
abbrev s_is_stage : Stmt := top 20
theorem sc_is_stage : FnScope ["value", "kind"] ["value"] (defScope s_is_stage) := ⟨rfl, rfl, rfl, by decide +kernel, rfl, by decide +kernel, by decide +kernel⟩
theorem ok_is_stage {f : Addr} {fd : FuncData} (F : Fun K "is_stage" "is_stage" s_is_stage f fd) (m_isinstance : mg "isinstance" = none) (m_tuple : mg "tuple" = none) (m_str : mg "str" = none) (m_len : mg "len" = none)
    (h_is_integer : Has P w K mg base 1 "is_integer" (spLook isInt)) (h_is_natural : Has P w K mg base 2 "is_natural" (spLook isNat)) (h_is_band : Has P w K mg base 3 "is_band" (spLook isBand)) :
    FnOk P w K mg base CX0 4 f fd ["value"] (spLook isStage) := by
  refine F.ok sc_is_stage (fun vs H Q E h => ?_) (fun cdv A outer s H vs Q E hr h => ?_)
  · obtain ⟨x, d, rfl, _⟩ := h
    rfl
  · obtain ⟨x, d, rfl, hd, k⟩ := h
    refine ⟨_, (pss_cons (ps_if (PW.pt (pw_or (pt_not (pt_val (pe_callB call_isi rfl m_isinstance (by decide +kernel) (pa_cons (pv 0) (pa_cons (pe_bltn (v := .ty "tuple") (u := .type "tuple") rfl m_tuple (by decide +kernel) rfl) pa_nil))))) (pw_or (pt_cmpR op_lt (pe_callB call_lenQ rfl m_len PySem.boot_len (pa_cons (pv 0) pa_nil)) pe_int (nomark _)) (pw_or1 (pt_not (pt_val (pe_callB call_isi rfl m_isinstance (by decide +kernel) (pa_cons (pe_ix ix_tup (pv 0) pe_int (fun _ _ => rfl)) (pa_cons (pe_bltn (v := .ty "str") (u := .type "str") rfl m_str (by decide +kernel) rfl) pa_nil)))))))))
  (pss_one (ps_ret pe_bl))
  pss_nil)
  (pss_cons (ps_set (i := 1) sc_is_stage.nd rfl (Or.inl rfl) (pe_ix ix_tup (pv 0) pe_int (fun _ _ => rfl)))
  (pss_cons (ps_if (pt_cmpR op_eq (pv 1) pe_str (nomark _))
  (pss_one (ps_ret (pe_and (pe_cmpR op_eq (pe_callB call_lenQ rfl m_len PySem.boot_len (pa_cons (pv 0) pa_nil)) pe_int (nomark _)) (pe_one (pe_hs h_is_natural hr rfl (pa_cons (pe_ix ix_tup (pv 0) pe_int (fun _ _ => rfl)) pa_nil))))))
  pss_nil)
  (pss_cons (ps_if (pt_cmpR op_eq (pv 1) pe_str (nomark _))
  (pss_one (ps_ret (pe_and (pe_cmpR op_eq (pe_callB call_lenQ rfl m_len PySem.boot_len (pa_cons (pv 0) pa_nil)) pe_int (nomark _)) (pe_one (pe_hs h_is_integer hr rfl (pa_cons (pe_ix ix_tup (pv 0) pe_int (fun _ _ => rfl)) pa_nil))))))
  pss_nil)
  (pss_one (ps_ret (pe_and (pe_cmpR op_eq (pv 1) pe_str (nomark _)) (pe_one (pe_hs h_is_band hr rfl (pa_cons (pe_slice sl_tup (pv 0) (po_some pe_int) po_none) pa_nil)))))))))), ?_⟩
    have no : isStage d = false → ∀ H', Ex H H' → Q (.bl false) H' := fun e H' e' => by rw [← e]; exact k H' e'
    walk_at "rd"
    refine go_isi hd (kit_tuple d) ?_
    walk_at "rd"
    rcases tuple_or d with ⟨ds, rfl⟩ | hn
    · obtain ⟨a, xs, rfl, ha, hda⟩ := hd.tupleAt
      have hl := hda.len
      refine iteF ?_
      walk_at "rd"
      cases hda with
      | nil =>
        refine iteT (iteT ?_)
        walk_at "rd"
        exact no rfl _ (Ex.refl _)
      | cons q1 hda =>
        rename_i v vs d ds
        cases hda with
        | nil =>
          refine iteT (iteT ?_)
          walk_at "rd"
          refine no ?_ _ (Ex.refl _)
          cases d <;> rfl
        | cons q2 hda =>
          rename_i v2 vs d2 ds
          have hlt : decide (((v :: v2 :: vs).length : Int) < 2) = false := by simp; omega
          rw [hlt]
          refine iteF ?_
          walk_at "rd"
          refine go_isi q1 (kit_str d) ?_
          walk_at "rd"
          rcases str_or d with ⟨nm, rfl⟩ | hn
          · cases q1
            refine iteF ?_
            walk_at "rd"
            have len2 : decide (V.int ((V.str nm :: v2 :: vs).length : Int) = V.int 2) = ds.isEmpty := by
              have := hda.len
              cases ds with
              | nil => cases vs with
                       | nil => rfl
                       | cons _ _ => simp at this
              | cons _ _ => cases vs with
                            | nil => simp at this
                            | cons _ _ => simp; omega
            refine ite2 (fun c => ?_) (fun c => ?_)
            · obtain rfl : nm = "mix" := by simpa using c
              walk_at "rd"
              rw [len2]
              cases he : ds.isEmpty with
              | false =>
                refine iteF (no ?_ _ (Ex.refl _))
                simp [isStage, he]
              | true =>
                refine iteT ?_
                walk_at "rd"
                refine look_go q2 fun H1 e1 => ?_
                have e : isStage (.tuple (.str "mix" :: d2 :: ds)) = isNat d2 := by simp [isStage, he]
                rw [← e]
                exact k _ e1
            · have cm : nm ≠ "mix" := by simpa using c
              walk_at "rd"
              refine ite2 (fun c2 => ?_) (fun c2 => ?_)
              · obtain rfl : nm = "dial" := by simpa using c2
                walk_at "rd"
                rw [len2]
                cases he : ds.isEmpty with
                | false =>
                  refine iteF (no ?_ _ (Ex.refl _))
                  simp [isStage, he]
                | true =>
                  refine iteT ?_
                  walk_at "rd"
                  refine look_go q2 fun H1 e1 => ?_
                  have e : isStage (.tuple (.str "dial" :: d2 :: ds)) = isInt d2 := by simp [isStage, he, cm]
                  rw [← e]
                  exact k _ e1
              · have cd : nm ≠ "dial" := by simpa using c2
                have e : isStage (.tuple (.str nm :: d2 :: ds)) = (decide (nm = "pass") && isBand (.tuple (d2 :: ds))) := by simp [isStage, cm, cd]
                walk_at "rd"
                have en : decide (V.str nm = V.str "pass") = decide (nm = "pass") := by simp
                rw [en]
                cases hp : decide (nm = "pass") with
                | false =>
                  refine iteF (no ?_ _ (Ex.refl _))
                  rw [e, hp]
                  rfl
                | true =>
                  refine iteT ?_
                  walk_at "rd"
                  obtain ⟨t1, t2⟩ := cut_tail (V.str nm) (v2 :: vs)
                  refine go_slT ha t2 fun p hp' => ?_
                  rw [t1]
                  walk_at "rd"
                  have en := Ex.new (o := HO.tup (v2 :: vs)) hp'
                  refine look_go (d := .tuple (d2 :: ds)) (.tup (.inl upd_same) (.cons (q2.ex en) (hda.ex en))) fun H1 e1 => ?_
                  have e' : isStage (.tuple (.str nm :: d2 :: ds)) = isBand (.tuple (d2 :: ds)) := by rw [e, hp]; rfl
                  rw [← e']
                  exact k _ (en.trans e1)
          · rw [hn]
            refine iteT ?_
            walk_at "rd"
            refine no ?_ _ (Ex.refl _)
            cases d <;> first | rfl | simp [pStr] at hn
    · rw [hn]
      refine iteT (iteT ?_)
      walk_at "rd"
      refine no ?_ _ (Ex.refl _)
      cases d <;> first | rfl | simp [pTuple] at hn
abbrev s_is_rate : Stmt := top 21
theorem sc_is_rate : FnScope ["value"] ["value"] (defScope s_is_rate) := ⟨rfl, rfl, rfl, by decide +kernel, rfl, by decide +kernel, by decide +kernel⟩
theorem ok_is_rate {f : Addr} {fd : FuncData} {t : Tok} (F : Fun K "is_rate" "is_rate" s_is_rate f fd) (g_LEAST_RATE : mg "LEAST_RATE" = some (.int 2 t)) (h_is_integer : Has P w K mg base 1 "is_integer" (spLook isInt)) :
    FnOk P w K mg base CX0 2 f fd ["value"] (spLook isRate) := by
  refine F.ok sc_is_rate (fun vs H Q E h => ?_) (fun cdv A outer s H vs Q E hr h => ?_)
  · obtain ⟨x, d, rfl, _⟩ := h
    rfl
  · obtain ⟨x, d, rfl, hd, k⟩ := h
    refine ⟨_, (pss_one (ps_ret (pe_or (pe_cmpR op_isN1 (pv 0) pe_non (nomark _)) (pe_one (pe_and (pe_hs h_is_integer hr rfl (pa_cons (pv 0) pa_nil)) (pe_one (pe_cmpR op_ge (pv 0) (pe_glob (v := .int 2) rfl g_LEAST_RATE ⟨_, rfl⟩) (nomark _)))))))), ?_⟩
    walk_at "rd"
    cases hd with
    | non => exact iteT (k _ (Ex.refl _))
    | int i =>
      refine iteF ?_
      walk_at "rd"
      refine look_go (.int i) fun H1 e1 => ?_
      walk_at "rd"
      refine iteT ?_
      walk_at "rd"
      exact k _ e1
    | bl b =>
      refine iteF ?_
      walk_at "rd"
      refine look_go (.bl b) fun H1 e1 => ?_
      walk_at "rd"
      exact iteF (k _ e1)
    | str b =>
      refine iteF ?_
      walk_at "rd"
      refine look_go (.str b) fun H1 e1 => ?_
      walk_at "rd"
      exact iteF (k _ e1)
    | lst h1 h2 =>
      refine iteF ?_
      walk_at "rd"
      refine look_go (.lst h1 h2) fun H1 e1 => ?_
      walk_at "rd"
      exact iteF (k _ e1)
    | tup h1 h2 =>
      refine iteF ?_
      walk_at "rd"
      refine look_go (.tup h1 h2) fun H1 e1 => ?_
      walk_at "rd"
      exact iteF (k _ e1)
    | dic h1 =>
      refine iteF ?_
      walk_at "rd"
      refine look_go (.dic h1) fun H1 e1 => ?_
      walk_at "rd"
      exact iteF (k _ e1)
abbrev s__is_frame : Stmt := top 22
theorem sc__is_frame : FnScope ["value"] ["value"] (defScope s__is_frame) := ⟨rfl, rfl, rfl, by decide +kernel, rfl, by decide +kernel, by decide +kernel⟩
theorem ok_is_frame {f : Addr} {fd : FuncData} {t : Tok} (F : Fun K "_is_frame" "_is_frame" s__is_frame f fd) (m_isinstance : mg "isinstance" = none) (m_tuple : mg "tuple" = none) (m_list : mg "list" = none) (m_len : mg "len" = none) (g_MOST_STAGES : mg "MOST_STAGES" = some (.int 8 t)) :
    FnOk P w K mg base CX0 1 f fd ["value"] (spLook isFrame) := by
  refine F.ok sc__is_frame (fun vs H Q E h => ?_) (fun cdv A outer s H vs Q E hr h => ?_)
  · obtain ⟨x, d, rfl, _⟩ := h
    rfl
  · obtain ⟨x, d, rfl, hd, k⟩ := h
    refine ⟨_, (pss_cons (ps_if (PW.pt (pw_or (pt_not (pt_val (pe_callB call_isi rfl m_isinstance (by decide +kernel) (pa_cons (pv 0) (pa_cons (pe_bltn (v := .ty "tuple") (u := .type "tuple") rfl m_tuple (by decide +kernel) rfl) pa_nil))))) (pw_or1 (pt_cmpR op_ne (pe_callB call_lenQ rfl m_len PySem.boot_len (pa_cons (pv 0) pa_nil)) pe_int (nomark _)))))
  (pss_one (ps_ret pe_bl))
  pss_nil)
  (pss_one (ps_ret (pe_and (pe_callB call_isi rfl m_isinstance (by decide +kernel) (pa_cons (pe_ix ix_tup (pv 0) pe_int (fun _ _ => rfl)) (pa_cons (pe_bltn (v := .ty "list") (u := .type "list") rfl m_list (by decide +kernel) rfl) pa_nil))) (pe_one (pe_chain op_le op_le pe_int (pe_callB call_lenQ rfl m_len PySem.boot_len (pa_cons (pe_ix ix_tup (pv 0) pe_int (fun _ _ => rfl)) pa_nil)) (pe_glob (v := .int 8) rfl g_MOST_STAGES ⟨_, rfl⟩))))))), ?_⟩
    have no : isFrame d = false → Q (.bl false) H := fun e => by rw [← e]; exact k H (Ex.refl H)
    walk_at "rd"
    refine go_isi hd (kit_tuple d) ?_
    walk_at "rd"
    rcases tuple_or d with ⟨ds, rfl⟩ | hn
    · obtain ⟨a, xs, rfl, ha, hda⟩ := hd.tupleAt
      have hl := hda.len
      refine iteF ?_
      walk_at "rd"
      by_cases h2 : ds.length = 2
      · obtain ⟨b, c, d, e, rfl, rfl, hb, hc⟩ := dqa2 hda h2
        refine iteNS rfl ?_
        walk_at "rd"
        refine go_isi hb (kit_list d) ?_
        walk_at "rd"
        rcases list_or d with ⟨ss, rfl⟩ | hn
        · obtain ⟨a2, ys, rfl, ha2, hda2⟩ := hb.listAt
          refine iteT ?_
          walk_at "rd"
          have hl2 := hda2.len
          cases h1 : decide (1 ≤ (ys.length : Int)) with
          | false =>
            refine iteF (no ?_)
            have : ss.length = 0 := by simp at h1; omega
            simp [isFrame, this]
          | true =>
            refine iteT ?_
            walk_at "rd"
            have e : isFrame (.tuple [.list ss, e]) = decide ((ys.length : Int) ≤ 8) := by
              have : 1 ≤ ss.length := by simp at h1; omega
              simp [isFrame, this]
              rw [hl2]
              by_cases q : ss.length ≤ 8
              · simp [q]; omega
              · simp [q]; omega
            rw [← e]
            exact k _ (Ex.refl _)
        · rw [hn]
          refine iteF (no ?_)
          cases d <;> first | rfl | simp [pList] at hn
      · have hne : (!decide (V.int (xs.length : Int) = V.int 2)) = true := by
          simp
          omega
        rw [hne]
        refine iteT ?_
        walk_at "rd"
        refine no ?_
        match ds, h2 with
        | [], _ => rfl
        | [x], _ => cases x <;> rfl
        | [_, _], h => exact absurd rfl h
        | x :: y :: _ :: _, _ => cases x <;> rfl
    · rw [hn]
      refine iteT (iteT ?_)
      walk_at "rd"
      refine no ?_
      cases d <;> first | rfl | simp [pTuple] at hn
/-- a look that passes: nothing is raised -/
def spCheck (f : PyData → Bool) : Sp := fun vs H Q _ => ∃ x d, vs = [x] ∧ Dq H x d ∧ f d = true ∧ ∀ H', Ex H H' → Q .non H'
theorem check_go {f : PyData → Bool} {x : V} {d : PyData} {H : Hp} {Q : VK} {E : XK} (h : Dq H x d) (hf : f d = true) (k : ∀ H', Ex H H' → Q .non H') : spCheck f ([x] ++ []) H Q E := ⟨x, d, rfl, h, hf, k⟩
end
end Kx

set_option Elab.async false
set_option linter.all false
set_option maxRecDepth 100000
set_option maxHeartbeats 2000000

namespace Kx
open PySem PySem.Spec PyProof.Rows L2 HX
open Evl (Ex)
local macro_rules | `(tactic| walk_at "side") => `(tactic| first | assumption | ((try dsimp only); first | assumption | decide +kernel | omega | exact ⟨by decide, by decide⟩ | (left; decide) | (left; omega) | (refine Or.inl ⟨?_, ?_⟩ <;> omega) | (refine Or.inr ⟨?_, ?_⟩ <;> omega)))
local macro_rules | `(tactic| walk_at "heap") => `(tactic| first | assumption | exact upd_same | exact Or.inl (by assumption) | exact Or.inl upd_same)
local macro_rules | `(tactic| walk_at "item") => `(tactic| first | exact rfl | exact atI_nat (j := 0) rfl | exact atI_nat (j := 1) rfl | exact atI_nat (j := 2) rfl | assumption)
local macro_rules | `(tactic| walk_at "rd") => `(tactic| repeat (first
  | ((with_reducible refine' go_var ?hv ?_); (case hv => exact rfl))
  | with_reducible refine' go_c ?_
  | with_reducible refine' go_op ?_
  | with_reducible refine' go_seq ?_
  | with_reducible refine' go_asg ?_
  | with_reducible refine' go_name ?_
  | with_reducible refine' go_cons ?_
  | with_reducible refine' go_nil ?_
  | with_reducible refine' go_cb ?_
  | with_reducible refine' go_call ?_
  | with_reducible refine' go_ifS ?_
  | with_reducible refine' go_test ?_
  | with_reducible refine' go_bl ?_
  | with_reducible refine' go_ret ?_
  | with_reducible refine' go_I0 ?_
  | ((with_reducible refine' go_I ?cc ?_); (case cc => walk_at "side"))
  | ((with_reducible refine' go_ixL ?hh ?hk ?_); (case hh => walk_at "heap"); (case hk => walk_at "item"))
  | ((with_reducible refine' go_ixT ?hh ?hk ?_); (case hh => walk_at "heap"); (case hk => walk_at "item"))
  | ((with_reducible refine' go_lenL ?hh ?_); (case hh => walk_at "heap"))
  | ((with_reducible refine' go_lenT ?hh ?_); (case hh => walk_at "heap"))
  | ((with_reducible refine' go_setL ?hh ?hk ?_); (case hh => walk_at "heap"); (case hk => walk_at "item"))
  | with_reducible refine' go_abs ?_
  | with_reducible refine' go_max ?_
  | with_reducible refine' go_min ?_
  | with_reducible refine' go_int ?_
  | with_reducible refine' go_intB ?_
  | (with_reducible refine' go_eq rfl ?_)
  | (with_reducible refine' go_ne rfl ?_)
  | with_reducible refine' go_isN ?_
  | with_reducible refine' go_notN ?_
  | with_reducible refine' go_if ?_
  | with_reducible refine' go_sub ?_
  | with_reducible refine' go_par ?_
  | with_reducible refine' go_sl ?_
  | with_reducible refine' go_part ?_
  | with_reducible refine' go_pint ?_
  | with_reducible refine' go_nopart ?_
  | ((with_reducible refine' go_lenL ?hh ?_); (case hh => walk_at "heap"))
  | ((with_reducible refine' go_lenT ?hh ?_); (case hh => walk_at "heap"))
  | ((with_reducible refine' go_lenS ?hh ?_); (case hh => assumption))
  | with_reducible refine' go_gcons ?_
  | with_reducible refine' go_gnil ?_
  | with_reducible refine' go_kw ?_
  | with_reducible refine' go_par2 ?_
  | with_reducible refine' go_next ?_
  | with_reducible refine' go_drop ?_
  | with_reducible refine' go_and ?_
  | with_reducible refine' go_or ?_
  | with_reducible refine' go_not ?_
  | with_reducible refine' go_B ?_
  | with_reducible refine' go_andV ?_
  | with_reducible refine' go_orV ?_
  | with_reducible refine' go_notV ?_
  | with_reducible refine' go_chain ?_
  | with_reducible refine' go_un ?_
  | with_reducible refine' go_U ?_
  | with_reducible refine' go_bm ?_
  | with_reducible refine' go_tup ?_
  | with_reducible refine' go_lst ?_
  | with_reducible refine' go_forR1 ?_
  | with_reducible refine' go_forR2 ?_
  | with_reducible refine' go_forL ?_
  | with_reducible refine' go_forT ?_
  | with_reducible refine' go_forE ?_
  | with_reducible refine' go_lcR1 ?_
  | with_reducible refine' go_lcL ?_
  | with_reducible refine' go_lcT ?_
  | ((with_reducible refine' go_tyL ?hh ?_); (case hh => walk_at "heap"))
  | ((with_reducible refine' go_new ?hz ?_); (case hz => exact Nat.le_of_ble_eq_true rfl))
  | (with_reducible refine' ⟨_, rfl, ?_⟩)
  ))
--MACEND
section
variable {P : Program} {w : World} {K : PySem.W.Frag} {mg : Str → Option Value} {base : Heap}
theorem stg_stage {b : Int} {s : Stg} (h : s.ok b) : isStage s.d = true := by
  have n1 : ¬ ((("dial" : String) : Str) = "mix") := by decide +kernel
  have n2 : ¬ ((("pass" : String) : Str) = "mix") := by decide +kernel
  have n3 : ¬ ((("pass" : String) : Str) = "dial") := by decide +kernel
  cases s with
  | mix lo => simp [Stg.d, isStage, isNat, h.1]
  | dial lo => simp [Stg.d, isStage, isInt, n1]
  | pass lo hi =>
    have : 0 ≤ hi := Int.le_trans h.1 h.2.1
    simp [Stg.d, isStage, isBand, n2, n3, h.1, h.2.1, this]
theorem dqa_get {H : Hp} : ∀ {vs : List V} {ss : List Stg} {i : Nat} {v : V}, DqAll H vs (ss.map Stg.d) → vs[i]? = some v → ∃ s, ss[i]? = some s ∧ Dq H v s.d := fun {vs ss i v} h e => by
  obtain ⟨d, h1, h2⟩ := h.get e
  rw [List.getElem?_map] at h1
  cases q : ss[i]? with
  | none => rw [q] at h1; cases h1
  | some s => rw [q] at h1; cases h1; exact ⟨s, rfl, h2⟩
def spRecv : Sp := fun vs H Q _ => ∃ x b ss rate, vs = [x] ∧ Dq H x (radD ss rate) ∧ Rad b ss rate ∧ ∀ H', Ex H H' → Q .non H'
theorem dials_take {ss : List Stg} {i : Nat} {s : Stg} (h : ss[i]? = some s) (one : dials ss ≤ 1) (hd : s.isDial = true) : dials (ss.take i) = 0 := by
  have hlt : i < ss.length := (List.getElem?_eq_some_iff.mp h).1
  have e : ss = ss.take i ++ s :: ss.drop (i + 1) := by
    have e1 : ss[i] = s := (List.getElem?_eq_some_iff.mp h).2
    conv => lhs; rw [← List.take_append_drop i ss, List.drop_eq_getElem_cons hlt, e1]
  have e2 : dials ss = dials (ss.take i) + dials (s :: ss.drop (i + 1)) := by
    conv => lhs; rw [e]
    unfold dials
    rw [List.filter_append, List.length_append]
  have e3 : 1 ≤ dials (s :: ss.drop (i + 1)) := by
    unfold dials
    rw [List.filter_cons, if_pos hd]
    simp
  omega
theorem dials_more {ss : List Stg} {i : Nat} {s : Stg} (h : ss[i]? = some s) : dials (ss.take (i + 1)) = dials (ss.take i) + (if s.isDial then 1 else 0) := by
  have hlt := (List.getElem?_eq_some_iff.mp h).1
  rw [List.take_succ, h]
  exact dials_app _ _
/-! ### tones -/
/-- what a stage makes of a number -/
def Stg.step (dial : Int) : Stg → Option Int → Option Int
  | _, none => none
  | .mix lo, some n => some (if n - lo < 0 then -(n - lo) else n - lo)
  | .dial a, some n => some (if n - (dial + a) < 0 then -(n - (dial + a)) else n - (dial + a))
  | .pass lo hi, some n => if lo ≤ n ∧ n ≤ hi then some n else none
def sampled (rate : Int) : Option Int → Option Int
  | none => none
  | some n => some (if rate - n % rate < n % rate then rate - n % rate else n % rate)
def tones (dial : Int) : List Stg → Option Int → List (Option Int)
  | [], _ => []
  | s :: ss, n => s.step dial n :: tones dial ss (s.step dial n)
def lastT (dial : Int) : List Stg → Option Int → Option Int
  | [], n => n
  | s :: ss, n => lastT dial ss (s.step dial n)
def allTones (dial : Int) (ss : List Stg) (rate : Option Int) (n : Int) : List (Option Int) :=
  tones dial ss (some n) ++ (match rate with | none => [] | some r => [sampled r (lastT dial ss (some n))])
def optV : Option Int → V
  | none => .non
  | some i => .int i
theorem tones_take (dial : Int) : ∀ (ss : List Stg) (n : Option Int) (i : Nat) (s : Stg), ss[i]? = some s → tones dial (ss.take (i + 1)) n = tones dial (ss.take i) n ++ [s.step dial (lastT dial (ss.take i) n)] ∧ lastT dial (ss.take (i + 1)) n = s.step dial (lastT dial (ss.take i) n)
  | [], _, _, _, h => by simp at h
  | t :: ss, n, 0, s, h => by
    simp at h
    subst h
    simp [tones, lastT]
  | t :: ss, n, i + 1, s, h => by
    have := tones_take dial ss (t.step dial n) i s (by simpa using h)
    simp only [List.take_succ_cons, tones, lastT]
    exact ⟨by rw [this.1]; rfl, this.2⟩
theorem tones_len (dial : Int) : ∀ (ss : List Stg) (n : Option Int), (tones dial ss n).length = ss.length
  | [], _ => rfl
  | s :: ss, n => by simp [tones, tones_len dial ss]
def Stg.center (dial : Int) : Stg → V
  | .mix lo => .int lo
  | .dial a => .int (dial + a)
  | .pass _ _ => .non
def spMixing : Sp := fun vs H Q _ => ∃ (x : V) (s : Stg) (dial : Int), vs = [x, .int dial] ∧ Dq H x s.d ∧ ∀ H', Ex H H' → Q (s.center dial) H'
abbrev s_mixing_tone : Stmt := top 9
theorem sc_mixing_tone : FnScope ["stage", "dial"] ["stage", "dial"] (defScope s_mixing_tone) := ⟨rfl, rfl, rfl, by decide +kernel, rfl, by decide +kernel, by decide +kernel⟩
theorem ok_mixing_tone {f : Addr} {fd : FuncData} (F : Fun K "mixing_tone" "mixing_tone" s_mixing_tone f fd) : FnOk P w K mg base CX0 1 f fd ["stage", "dial"] spMixing := by
  refine F.ok sc_mixing_tone (fun vs H Q E h => ?_) (fun cdv A outer s H vs Q E hr h => ?_)
  · obtain ⟨x, s, dial, rfl, _⟩ := h
    rfl
  · obtain ⟨x, s, dial, rfl, hd, k⟩ := h
    refine ⟨_, (pss_cons (ps_if (pt_cmpR op_eq (pe_ix ix_tup (pv 0) pe_int (fun _ _ => rfl)) pe_str (nomark _))
  (pss_one (ps_ret (pe_ix ix_tup (pv 0) pe_int (fun _ _ => rfl))))
  pss_nil)
  (pss_cons (ps_if (pt_cmpR op_eq (pe_ix ix_tup (pv 0) pe_int (fun _ _ => rfl)) pe_str (nomark _))
  (pss_one (ps_ret (pe_op op_add (pv 1) (pe_ix ix_tup (pv 0) pe_int (fun _ _ => rfl)))))
  pss_nil)
  (pss_one (ps_ret pe_non)))), ?_⟩
    obtain ⟨a, rfl, ha⟩ := stg_at hd
    have n1 : decide (V.str "dial" = V.str "mix") = false := by decide +kernel
    have n2 : decide (V.str "pass" = V.str "mix") = false := by decide +kernel
    have n3 : decide (V.str "pass" = V.str "dial") = false := by decide +kernel
    cases s with
    | mix lo =>
      have ha' : Rd H a (.tup [.str "mix", .int lo]) := ha
      walk_at "rd"
      refine ite2 (fun _ => ?_) (fun c => absurd (decide_eq_true rfl) c)
      walk_at "rd"
      exact k _ (Ex.refl _)
    | dial lo =>
      have ha' : Rd H a (.tup [.str "dial", .int lo]) := ha
      walk_at "rd"
      rw [n1]
      refine iteF ?_
      walk_at "rd"
      refine ite2 (fun _ => ?_) (fun c => absurd (decide_eq_true rfl) c)
      walk_at "rd"
      exact k _ (Ex.refl _)
    | pass lo hi =>
      have ha' : Rd H a (.tup [.str "pass", .int lo, .int hi]) := ha
      walk_at "rd"
      rw [n2]
      refine iteF ?_
      walk_at "rd"
      rw [n3]
      refine iteF ?_
      walk_at "rd"
      exact k _ (Ex.refl _)
def spBehind : Sp := fun vs H Q _ => ∃ (x : V) (s : Stg) (dial : Int) (n : Option Int), vs = [x, .int dial, optV n] ∧ Dq H x s.d ∧ ∀ H', Ex H H' → Q (optV (s.step dial n)) H'
abbrev s_behind_stage : Stmt := top 11
theorem sc_behind_stage : FnScope ["stage", "dial", "number", "center"] ["stage", "dial", "number"] (defScope s_behind_stage) := ⟨rfl, rfl, rfl, by decide +kernel, rfl, by decide +kernel, by decide +kernel⟩
theorem ok_behind_stage {f : Addr} {fd : FuncData} (F : Fun K "behind_stage" "behind_stage" s_behind_stage f fd) (m_abs : mg "abs" = none) (h_mixing_tone : Has P w K mg base 1 "mixing_tone" spMixing) : FnOk P w K mg base CX0 2 f fd ["stage", "dial", "number"] spBehind := by
  refine F.ok sc_behind_stage (fun vs H Q E h => ?_) (fun cdv A outer s H vs Q E hr h => ?_)
  · obtain ⟨x, s, dial, n, rfl, _⟩ := h
    rfl
  · obtain ⟨x, s, dial, n, rfl, hd, k⟩ := h
    refine ⟨_, (pss_cons (ps_if (pt_cmpR op_isN1 (pv 2) pe_non (nomark _))
  (pss_one (ps_ret pe_non))
  pss_nil)
  (pss_cons (ps_set (i := 3) sc_behind_stage.nd rfl (Or.inl rfl) (pe_hs h_mixing_tone hr rfl (pa_cons (pv 0) (pa_cons (pv 1) pa_nil))))
  (pss_cons (ps_if (pt_cmpR op_notN1 (pv 3) pe_non (nomark _))
  (pss_one (ps_ret (pe_callB call_absQ rfl m_abs (by decide +kernel) (pa_cons (pe_op op_sub (pv 2) (pv 3)) pa_nil))))
  pss_nil)
  (pss_cons (ps_if (pt_chain op_le op_le (pe_ix ix_tup (pv 0) pe_int (fun _ _ => rfl)) (pv 2) (pe_ix ix_tup (pv 0) pe_int (fun _ _ => rfl)))
  (pss_one (ps_ret (pv 2)))
  pss_nil)
  (pss_one (ps_ret pe_non)))))), ?_⟩
    cases n with
    | none =>
      walk_at "rd"
      refine ite2 (fun _ => ?_) (fun c => absurd (decide_eq_true rfl) c)
      walk_at "rd"
      have e : s.step dial none = none := by cases s <;> rfl
      have := k H (Ex.refl _)
      rw [e] at this
      exact this
    | some n =>
      have hi : decide (optV (some n) = V.non) = false := by simp [optV]
      walk_at "rd"
      rw [hi]
      refine iteF ?_
      walk_at "rd"
      refine ⟨x, s, dial, rfl, hd, fun H1 e1 => ?_⟩
      walk_at "rd"
      cases s with
      | mix lo =>
        have h2 : (!decide ((Stg.mix lo).center dial = V.non)) = true := by simp [Stg.center]
        rw [h2]
        refine iteT ?_
        show tRet (tCB rAbsQ (tCons (tOp (rI0 fun i j => .int (i - j)) (tVar 2) (tVar 3)) tNil)) _ [some x, some (.int dial), some (.int n), some (.int lo)] H1
        walk_at "rd"
        exact k _ e1
      | dial lo =>
        have h2 : (!decide ((Stg.dial lo).center dial = V.non)) = true := by simp [Stg.center]
        rw [h2]
        refine iteT ?_
        show tRet (tCB rAbsQ (tCons (tOp (rI0 fun i j => .int (i - j)) (tVar 2) (tVar 3)) tNil)) _ [some x, some (.int dial), some (.int n), some (.int (dial + lo))] H1
        walk_at "rd"
        exact k _ e1
      | pass lo hi =>
        have h2 : (!decide ((Stg.pass lo hi).center dial = V.non)) = false := by simp [Stg.center]
        rw [h2]
        refine iteF ?_
        obtain ⟨a, rfl, ha⟩ := stg_at (hd.ex e1)
        have ha' : Rd H1 a (.tup [.str "pass", .int lo, .int hi]) := ha
        have hn : optV (some n) = .int n := rfl
        walk_at "rd"
        rw [hn]
        walk_at "rd"
        have fin : ∀ r, (if lo ≤ n ∧ n ≤ hi then some n else none) = r → Q (optV r) H1 := fun r e => by
          have := k H1 e1
          rw [show (Stg.pass lo hi).step dial (some n) = (if lo ≤ n ∧ n ≤ hi then some n else none) from rfl, e] at this
          exact this
        refine ite2 (fun c1 => ?_) (fun c1 => ?_)
        · have c1' : lo ≤ n := by simpa using c1
          walk_at "rd"
          refine ite2 (fun c2 => ?_) (fun c2 => ?_)
          · have c2' : n ≤ hi := by simpa using c2
            walk_at "rd"
            exact fin (some n) (if_pos ⟨c1', c2'⟩)
          · have c2' : ¬ n ≤ hi := by simpa using c2
            walk_at "rd"
            exact fin none (if_neg fun z => c2' z.2)
        · have c1' : ¬ lo ≤ n := by simpa using c1
          walk_at "rd"
          refine iteF ?_
          walk_at "rd"
          exact fin none (if_neg fun z => c1' z.1)
def spSampler : Sp := fun vs H Q _ => ∃ (r : Int) (n : Option Int), vs = [.int r, optV n] ∧ 2 ≤ r ∧ ∀ H', Ex H H' → Q (optV (sampled r n)) H'
end
end Kx

set_option Elab.async false
set_option linter.all false
set_option maxRecDepth 100000
set_option maxHeartbeats 2000000
/-! an own error over ValueError whose __init__ says super().__init__(text) and then stores one field -/
namespace SupX
open PySem PySem.W PySem.Calls PyProof.Rows PySem.HandSPX
/-! ### the bound __init__ of ValueError, called -/
section
variable {prog : Program} {w : World} {A : Around} {E : Value → Shared → Prop} {h : Heap} {g : Array GenState} {d : Drawn} {t : Nat} {os : OsState}
variable {nm q : Str} {C N : Addr} {bs bm : List Value} {hdct : Bool} {sn : List Str} {sub : List Value} {ab : Bool} {col : Option Bool} {dd : Option Addr} {k0 k1 k2 k3 k5 : Option Value}
theorem call_mw {u e t0 : Addr} {vs : List Value} {Q : Value → Shared → Prop}
    (hC : h.get? C = some (excClassObj nm q C N bs bm hdct sn sub ab col dd k0 k1 k2 k3 k5 "ValueError.__new__"))
    (he : h.get? e = some (excO C t0)) (hu : h.get? u = some (kxs_mw "ValueError.__init__" e)) (hz : vs.length ≤ sizeLine)
    (hq : ∀ h' t1, (∀ b o, b ≠ e → h.get? b = some o → h'.get? b = some o) → h'.get? e = some (excO C t1) → Q .none ⟨h', g, d, t, os⟩) :
    wpAny (model prog w) A (call (.ref u) vs) Q E ⟨h, g, d, t, os⟩ := by
  have c1 : (Value.type "method-wrapper" == Value.type "method" || Value.type "method-wrapper" == Value.type "builtin_function_or_method" || Value.type "method-wrapper" == Value.type "method-wrapper") = true := by decide
  refine wpAny_call ?_
  refine codeAny_of_tree ?_
  show wpAny _ A.in1 (callAny (.ref u) ⟨vs, []⟩) _ _ _
  simp only [callAny]
  refine wpAny_bind ?_
  refine wpAny_load hu ?_
  simp only [kxs_mw, c1, if_true]
  refine KFB.if_so (by decide) ?_
  refine wpAny_bind ?_
  refine check_bound_init F.excBase_ValueError.toExcCallFacts hC he rfl ?_
  refine wpAny_bind (wpAny_pure ?_)
  refine wpAny_pure ?_
  refine ⟨plainId_quiet F.excBase_ValueError.init.plain _, ?_⟩
  refine codeAny_builtin F.excBase_ValueError.initEntry ?_
  rw [Around.under_plainId F.excBase_ValueError.init.plain _]
  wp_walk
  refine hq _ h.objs.size (fun b o hb ho => ?_) ?_
  · rw [Heap.get?_update_other _ _ (Ne.symm hb)]
    exact Heap.get?_push_of_some _ ho
  · rw [Heap.get?_update_self _ (Heap.get?_push_of_some _ he) rfl]
    rfl
end
/-- o.name(e), o told of a known activation -/
theorem at_method {M : Model} {A : Around} {c : Code} {E : Value → Shared → Prop} {s : Shared} {env : Env} {o e : Expr} {name : Str} {apos pos : Pos} {Q : Value → Shared → Prop} (hl : (apos.endLine == pos.line) = true)
    (hf : methodCallForm 1 (backTo pos (starEach [e] env)) [] = true)
    (h : PySem.wpAt M A c (attributeBase o name env (eval o env)) (fun ov s₁ => wpAny M A (getMethod ov name (do return (← importBound o env).getD true)) (fun fx s₂ => wpAny M A (callWith pos fx.1 fx.2 (backTo pos (starEach [e] env)) []) Q E s₂) E s₁) E s) :
    PySem.wpAt M A c (eval (.Call (.Attribute o name apos) [e] [] pos) env) Q E s := by
  have hp : methodCallPos true o env apos pos = pure pos := by unfold methodCallPos; simp [hl]
  rw [arm_eval_Call]
  refine PySem.wpAt_bind (ks_wpAt_mono h (fun ov s₁ h₁ => ?_) fun _ _ z => z)
  refine PySem.wpAt_of_wpAny ?_
  refine wpAny_bind (wpAny_standAt ?_)
  unfold methodCall
  rw [show methodCallForm ([e].length + ([] : List Keyword).length) (backTo pos (starEach [e] env)) (backToKw pos (keywordEach [] env)) = true from hf]
  refine wpAny_bind (wpAny_holding ?_)
  exact wpAny_mono h₁ (fun fx s₂ h₂ => wpAny_bind (wpAny_of_eq hp h₂)) fun _ _ z => z
/-! ### the text of __init__ -/
def iA (f : Str) (p1 p2 : Pos) : Arguments :=
  { posonlyargs := [], args := [{ arg := "self", annotation := none, pos := p1 }, { arg := f, annotation := none, pos := p2 }], vararg := none, kwonlyargs := [], kw_defaults := [], kwarg := none, defaults := [] }
def iB (f msg : Str) (p1 p2 p3 p4 p5 p6 q1 q2 q3 q4 : Pos) : List Stmt :=
  [.Expr (.Call (.Attribute (.Call (.Name "super" p1) [] [] p2) "__init__" p3) [.Constant (.str msg) 0 p4] [] p5) p6, .Assign [.Attribute (.Name "self" q1) f q2] (.Name f q3) q4]
def iS (f : Str) : Scope :=
  { kind := .function, names := [(PySem.Str.ofString "self", .local), (f, .local), (PySem.Str.ofString "__class__", .free), (PySem.Str.ofString "super", .globalImplicit)], isGenerator := false, isCoroutine := false, more := [] }
/-- what the written part says of the error at C and of its __init__ at fI -/
structure ErrTxt (P : Program) (K : Frag) (mg : Str → Option Value) (nmE fld : Str) (C fI : Addr) : Prop where
  okf : fld = "index" ∨ fld = "word"
  gC : mg nmE = some (.ref C)
  cls : ∃ nm q N bs bm sn sub ab col dd k0 k1 k2 k3 k5, K.lookup C = some (excClassObj nm q C N bs bm true sn sub ab col dd k0 k1 k2 k3 k5 "ValueError.__new__") ∧ refsVE bm = true
  sa : findIn K (.ref C) "__setattr__" = some (some (.builtin "object.__setattr__"))
  ga : findIn K (.ref C) "__getattribute__" = some (some (.builtin "BaseException.__getattribute__"))
  gg : findIn K (.ref C) "__getattr__" = some none
  noN : findIn K (.ref C) fld = some none
  iC : findIn K (.ref C) "__init__" = some (some (.ref fI))
  tC : typeIn K (.ref fI) = some (.type "function")
  kC : keepIn K (.ref C) = true
  exC : subIn K (.ref C) (.type "BaseException") = some true
  veC : subIn K (.ref C) (.type "ValueError") = some true
  meC : mroIn K C (.ref C) = some true
  tyC : typeIn K (.ref C) = some (.type "type")
  hdC : hasDictIn K C = true
  te : exmOne K (.ref C) (.ref C) = some true
  sup : ks_superIn K C C "__init__" = some (some (.builtin "ValueError.__init__"))
  op : nsIn K cStatics "thirdparty.any" = some none
  gs : mg "super" = none
  top : (P.main.scope.names.lookup ("super" : Str)).isSome = false
  fn : ∃ (oc : Value) (od : Option Addr) (doc pm : Value) (an : Option Addr) (ct qn : Value) (q : Str) (osl : Array (Option Value)) (msg : Str) (p1 p2 a1 a2 a3 a4 a5 a6 q1 q2 q3 q4 : Pos) (cc cda : Addr)
      (cl : Value) (cld : Option Addr) (csl : Array (Option Value)) (dl : Value) (dld : Option Addr) (dsl : Array (Option Value)) (vs : Array Value) (file : Str) (tf : Tok),
    K.lookup fI = some ⟨oc, od, .func (fnX "__init__" q (iA fld p1 p2) (iB fld msg a1 a2 a3 a4 a5 a6 q1 q2 q3 q4) (iS fld) [("__class__", cc)] .none .none doc pm an (.ref cda) ct), osl⟩ ∧ codeIn K (.ref cda) q = true ∧
      K.lookup cc = some ⟨cl, cld, .cell (some (.ref C)), csl⟩ ∧ K.lookup cda = some ⟨dl, dld, .fields vs, dsl⟩ ∧ vs[2]? = some (.str file tf) ∧ ((P.main.file : Str) == file) = true ∧ (a3.endLine == a5.line) = true
/-- what __init__ leaves of a fresh exception at x -/
structure InitEnd (fld : Str) (h h' : Heap) (x C dx t1 : Addr) (v : Value) : Prop where
  keep : ∀ b o, b ≠ x → h.get? b = some o → h'.get? b = some o
  obj : h'.get? x = some { cls := .ref C, dict := some dx, data := .fields #[.ref t1, .none, .none, .none, .bool false, .none] }
  dbig : h.objs.size ≤ dx
  dne : dx ≠ x
  ns : h'.Ns1 dx (fun y => if y = fld then some v else none)
structure OwnMade (fld : Str) (h h' : Heap) (e C d : Addr) (v : Value) : Prop where
  keep : ∀ b o, h.get? b = some o → h'.get? b = some o
  new : h.objs.size ≤ e
  obj : ∃ t1 : Addr, h'.get? e = some { cls := .ref C, dict := some d, data := .fields #[.ref t1, .none, .none, .none, .bool false, .none] }
  dbig : h.objs.size ≤ d
  dne : d ≠ e
  ns : h'.Ns1 d (fun y => if y = fld then some v else none)
/-- what stands below: the globals, the built-ins -/
structure Gnd (mg : Str → Option Value) (h : Heap) : Prop where
  lim : h.NoLimit
  g : h.Ns mainGlobals mg
  b : ∃ mb, h.Ns builtinsNs mb ∧ ∀ x : Str, x ≠ "__name__" → mb x = bootBuiltins x
theorem Gnd.keeps {mg : Str → Option Value} {h h' : Heap} (G : Gnd mg h) (k : ∀ b o, h.get? b = some o → h'.get? b = some o) : Gnd mg h' :=
  ⟨G.lim.keeps k, G.g.keeps k, let ⟨mb, q1, q2⟩ := G.b; ⟨mb, q1.keeps k, q2⟩⟩
section
variable {P : Program} {w : World} {A : Around} {E : Value → Shared → Prop} {R : Result → Shared → Prop} {s : Shared} {K : Frag} {mg : Str → Option Value} {nmE fld : Str} {C fI : Addr}
theorem sup_init (T : ErrTxt P K mg nmE fld C fI) {x t0 : Addr} {v : Value} {args : Args} (hargs : args = ⟨[.ref x, v], []⟩ ∨ args = ⟨[.ref x], [(fld, v)]⟩) (X : K.In s.heap) (G : Gnd mg s.heap) (hx : s.heap.get? x = some (excO C t0)) (hnx : K.lookup x = none) (hroom : A.depth < recursionLimit)
    (hq : ∀ h' tk dx t1, InitEnd fld s.heap h' x C dx t1 v → R (.ok (.ret .none)) { s with heap := h', toks := tk }) :
    codeAny (model P w) A (.call (.ref fI) args) R s := by
  obtain ⟨oc, od, doc, pm, an, ct, qn, q, osl, msg, p1, p2, a1, a2, a3, a4, a5, a6, q1, q2, q3, q4, cc, cda, cl, cld, csl, dl, dld, dsl, vs, file, tf, ho, hcd, hcc, hcda, hvs, hfile, hln⟩ := T.fn
  obtain ⟨nm, qq, N, bs, bm, sn, sub, ab, col, dd, k0, k1, k2, k3, k5, hC, hbm⟩ := T.cls
  have hcl : clsIn K C = some { name := nm, bases := bs, mro := .ref C :: bm, ns := N, qualname := qq, hasDict := true, slotNames := sn, subclasses := sub, abstract := ab, collection := col, hasDel := false } := by unfold clsIn; rw [hC] <;> rfl
  obtain ⟨lim, gg, mb, gb, hbb⟩ := G
  have main : ∀ (fld : Str), (args = ⟨[.ref x, v], []⟩ ∨ args = ⟨[.ref x], [(fld, v)]⟩) → (fld = "index" ∨ fld = "word") → findIn K (.ref C) fld = some none →
      K.lookup fI = some ⟨oc, od, .func (fnX "__init__" q (iA fld p1 p2) (iB fld msg a1 a2 a3 a4 a5 a6 q1 q2 q3 q4) (iS fld) [("__class__", cc)] .none .none doc pm an (.ref cda) ct), osl⟩ →
      (∀ h' tk dx t1, InitEnd fld s.heap h' x C dx t1 v → R (.ok (.ret .none)) { s with heap := h', toks := tk }) → codeAny (model P w) A (.call (.ref fI) args) R s := by
    intro fld hargs okf noN ho hq
    have kI : (iS fld).names.lookup ("self" : Str) = some .local := rfl
    have kF : (iS fld).names.lookup fld = some .local := by rcases okf with rfl | rfl <;> decide
    have kC : (iS fld).names.lookup ("__class__" : Str) = some .free := by rcases okf with rfl | rfl <;> decide
    have kS : (iS fld).names.lookup ("super" : Str) = some .globalImplicit := by rcases okf with rfl | rfl <;> decide
    have kD : (fld == ("__debug__" : Str)) = false := by rcases okf with rfl | rfl <;> decide
    have bnd : ∀ s, BindsTo s (fnX "__init__" q (iA fld p1 p2) (iB fld msg a1 a2 a3 a4 a5 a6 q1 q2 q3 q4) (iS fld) [("__class__", cc)] .none .none doc pm an (.ref cda) ct) args [("self", .ref x), (fld, v)] := fun s => by
      rcases hargs with rfl | rfl <;> rcases okf with rfl | rfl <;> exact BindsTo.of_eq rfl
    have lkF : ([("self", Value.ref x), (fld, v)] : List (Str × Value)).reverse.lookup fld = some v := by simp [List.lookup]
    have lkS : ([("self", Value.ref x), (fld, v)] : List (Str × Value)).reverse.lookup ("self" : Str) = some (Value.ref x) := by rcases okf with rfl | rfl <;> rfl
    refine ks_codeAny_call_defAt (fd := fnX "__init__" q (iA fld p1 p2) (iB fld msg a1 a2 a3 a4 a5 a6 q1 q2 q3 q4) (iS fld) [("__class__", cc)] .none .none doc pm an (.ref cda) ct) (binds := [("self", .ref x), (fld, v)])
      hroom (X _ _ ho) rfl lim (codeRec_of X hcd) rfl (bnd _) (fun y hy => ?_) (fun y hy => ?_) (fun h₁ hns k => ?_) rfl rfl rfl
    · rcases okf with rfl | rfl <;> (intro z; simp [iS] at hy; rcases hy with rfl | rfl | rfl | rfl <;> cases z)
    · rcases List.mem_cons.mp hy with rfl | hy
      · exact kI
      · rw [List.mem_singleton.mp hy]
        exact kF
    have X₁ : K.In h₁ := X.keeps k
    have hx₁ := k _ _ hx
    show PySem.wpAt _ _ _ (execs _ _) _ _ _
    refine ks_wpAt_execs_cons (ks_wpAt_Expr_any (at_method hln rfl ?_))
    refine ks_wpAt_super_base (env := ksEnv q (iS fld) s.heap.objs.size fI (.ref cda) cc) kS kC (by decide) rfl (X₁ _ _ ho) rfl rfl rfl (X₁ _ _ hcda) rfl hvs hfile T.top ?_
    refine ks_loadName_global rfl kS (loadGlobal_builtin (env := ksEnv q (iS fld) s.heap.objs.size fI (.ref cda) cc) (gg.keeps k) T.gs (gb.keeps k) ((hbb _ (by decide +kernel)).trans (by first | boot_by_name | rfl | kernel_rfl)) ⟨rfl, ?_⟩)
    refine wpAny_loadName_free rfl kC rfl ⟨_, X₁ _ _ hcc, rfl⟩ ?_
    refine wpAny_loadName_local rfl kI hns lkS ?_
    refine ks_wpAny_isType_cls (X₁ _ _ hC) rfl ⟨rfl, ?_⟩
    have noc : ∀ c, (excO C t0).data ≠ .cls c := fun c z => nomatch z
    refine ks_wpAny_call_super (X₁ _ _ hC) rfl hx₁ rfl noc (looks_mroIn X₁ T.meC) (fun h₂ hso k₂ => ?_)
    have X₂ : K.In h₂ := X₁.keeps k₂
    have hx₂ := k₂ _ _ hx₁
    have hxC : x ≠ C := fun z => by rw [z] at hnx; rw [hnx] at hC; cases hC
    have hsup : alongIn K "__init__" (((.ref C :: bm : List Value).dropWhile (· != .ref C)).drop 1) = some (some (.builtin "ValueError.__init__")) := by
      have z := T.sup
      unfold ks_superIn at z
      rw [hcl] at z
      exact z
    have I₂ : InstAt h₂ x (excO C t0) C none := ⟨hx₂, rfl, rfl, trivial⟩
    refine kxs_getMethod kxs_ValueError hso (looks_opaque X₂ T.op) (l₀ := .ref C :: bm) ((looks_clsIn X₂ hcl).andThen .now) rfl X₂ hsup (I₂.type.andThen (looks_subIn X₂ T.veC)) hxC (by decide) ?_
    have hu : (h₂.push (kxs_mw "ValueError.__init__" x)).get? h₂.objs.size = some (kxs_mw "ValueError.__init__" x) := Heap.get?_push_at rfl rfl
    have k₃ : ∀ b o, h₂.get? b = some o → (h₂.push (kxs_mw "ValueError.__init__" x)).get? b = some o := fun b o e => Heap.get?_push_of_some _ e
    refine kxs_callWith (i := "ValueError.__init__") (x := x) rfl ?_
    refine evalArgs_plain (spliced_cons (wpAny_Constant_str (k := 0) (pos := a4) (spliced_nil ⟨hu, ?_⟩)))
    refine call_mw (X₂.keeps k₃ _ _ hC) (k₃ _ _ hx₂) hu (by show 1 ≤ sizeLine; rw [sizeLine_eq]; decide) fun h₄ t1 k₄ hx₄ => ?_
    -- self.f = f
    have kk : ∀ b o, b ≠ x → h₁.get? b = some o → h₄.get? b = some o := fun b o hb e => k₄ b o hb (k₃ b o (k₂ b o e))
    have hxL : s.heap.objs.size ≠ x := Nat.ne_of_gt (Heap.lt_size hx)
    have hns₄ : h₄.Ns s.heap.objs.size (fun y => ([("self", Value.ref x), (fld, v)] : List (Str × Value)).reverse.lookup y) := hns.at fun o e => kk _ _ hxL e
    have X₄ : K.In h₄ := fun b o e => kk b o (fun z => by rw [z, hnx] at e; cases e) (X₁ b o e)
    refine ks_wpAt_execs_cons (PySem.wpAt_of_wpAny ?_)
    refine plainObj_wpAny_Assign_Attribute ?_
    refine wpAny_Name (wpAny_loadName_local rfl kF hns₄ lkF ?_) kD
    refine wpAny_Name (wpAny_loadName_local rfl kI hns₄ lkS ?_) (by decide)
    refine set_plain X₄ (ox := excO C t1) (od := none) ⟨hx₄, rfl, rfl, trivial⟩ T.sa ?_
    refine exc_osa X₄ hx₄ hcl (show refsVE (.ref C :: bm) = true from hbm) rfl noN (fun h₅ tk₅ dx k₅ dn dne hx₅ hn₅ => ?_)
    refine PySem.wpAt_of_wpAny ?_
    show wpAny _ _ (execs [] _) _ _ _
    have lt1 : s.heap.objs.size ≤ dx := by
      have q1 : s.heap.objs.size < h₄.objs.size := hns₄.lt
      have q2 : h₄.objs.size ≤ dx := dn
      omega
    exact wpAny_execs_nil (hq h₅ tk₅ dx t1 ⟨fun b o hb e => k₅ b o hb (kk b o hb (k b o e)), hx₅, lt1, dne, hn₅⟩)
  exact main fld hargs T.okf T.noN ho hq
theorem sup_made (T : ErrTxt P K mg nmE fld C fI) {v : Value} (X : K.In s.heap) (G : Gnd mg s.heap) (hroom : A.depth + 1 < recursionLimit)
    (hq : ∀ h' tk e d, OwnMade fld s.heap h' e C d v → R (.ok (.ret (.ref e))) { s with heap := h', toks := tk }) :
    codeAny (model P w) A (.call (.ref C) ⟨[v], []⟩) R s := by
  obtain ⟨nm, qq, N, bs, bm, sn, sub, ab, col, dd, k0, k1, k2, k3, k5, hC, hbm⟩ := T.cls
  obtain ⟨hp, g, dr, tk, os⟩ := s
  have k : ∀ b o, hp.get? b = some o → ((hp.push (kdv_tup [v])).push (excO C hp.objs.size)).get? b = some o := fun b o e => Heap.get?_push_of_some _ (Heap.get?_push_of_some _ e)
  have hget : ((hp.push (kdv_tup [v])).push (excO C hp.objs.size)).get? (hp.objs.size + 1) = some (excO C hp.objs.size) := by heap_get
  have hnx : K.lookup (hp.objs.size + 1) = none := by
    cases e : K.lookup (hp.objs.size + 1) with
    | none => rfl
    | some o => exact absurd (Nat.lt_of_succ_lt (Heap.lt_size (X _ _ e : hp.get? (hp.objs.size + 1) = some o))) (Nat.lt_irrefl _)
  refine call_own F.excBase_ValueError (fun X => refsVE_contains X bm hbm) (X _ _ hC) (looks_findIn X T.iC) (fun self => bind_fn X self T.tC) (by show 1 ≤ sizeLine; rw [sizeLine_eq]; decide) ?_
  refine sup_init (s := ⟨(hp.push (kdv_tup [v])).push (excO C hp.objs.size), g, dr, tk, os⟩) T (.inl rfl) (X.keeps k) (G.keeps k) hget hnx hroom fun h' tk' dx t1 I => ?_
  have old : ∀ b o, hp.get? b = some o → h'.get? b = some o := fun b o e => I.keep b o (Nat.ne_of_lt (Nat.lt_succ_of_lt (Heap.lt_size e))) (k b o e)
  have z : hp.objs.size + 1 + 1 ≤ dx := by simpa only [Heap.size_push] using I.dbig
  exact ⟨rfl, hq h' tk' (hp.objs.size + 1) dx ⟨old, Nat.le_succ _, ⟨t1, I.obj⟩, by show hp.objs.size ≤ dx; omega, I.dne, I.ns⟩⟩
end
end SupX

set_option Elab.async false
set_option linter.all false
set_option maxRecDepth 100000
set_option maxHeartbeats 2000000
namespace HX
open PySem PySem.Spec PyProof.Rows L2
theorem relO_fld {fld : Str} {v : V} {v' : Value} (r : RelV v v') (f : Str) : RelO (List.lookup f [(fld, v)]) (if f = fld then some v' else none) := by
  by_cases hw : f = fld
  · subst hw
    rw [if_pos rfl, show List.lookup f [(f, v)] = some v from by simp [List.lookup]]
    exact r
  · rw [if_neg hw, show List.lookup f [(fld, v)] = none from by simp [List.lookup, show (f == fld) = false from by simpa using hw]]
    trivial
theorem gnd_of {X : Cx} {pins : List (Addr × Obj)} {σ : L2.St} {H : Hp} {s : Shared} (I : Inv X pins σ H s) : SupX.Gnd X.mg s.heap :=
  ⟨I.nolimit, I.mod.glob.keeps I.bk, let ⟨mb, q1, q2⟩ := I.mod.blt; ⟨mb, q1.keeps I.bk, q2⟩⟩
section
variable {X : Cx} {nmE fld : Str} {C fI : Addr}
/-- X(e), X an own error with one field -/
def tMkErr (fld : Str) (C : Addr) (ta : TA) : L2.St → Hp → XK → Prop := fun σ H Q => ta σ H fun vs H1 => ∃ v, vs = [v] ∧ ∀ d, H1 d = none → Q (.ref C) (some d) (upd H1 d (.xd [(fld, v)]))
theorem pmk_err {a : Expr} {ta : TA} {p pos : Pos} {k : Nat} (T : SupX.ErrTxt X.prog X.K X.mg nmE fld C fI) (hr : Room k X.A) (ha : PA X [a] ta) (hg : Gl X nmE) (hdb : (nmE == ("__debug__" : Str)) = false)
    (he : starEach (a :: []) X.env = (false, eval a X.env) :: starEach [] X.env := by rfl) (hpl : (backTo pos (starEach [] X.env)).any (·.1) = false := by rfl) :
    PMk X (.Call (.Name nmE p) [a] [] pos) (tMkErr fld C ta) := by
  intro pins s σ H Q I h
  refine wpAny_Call_Name_kw (ld_glob I hg T.gC ?_ hdb)
  refine PySem.W.callWith_K (h₀ := X.base) I.ok.mod.kin T.kC (thn (ha.run pos pins s σ H _ I h) fun us s1 hh => ?_) he hpl
  obtain ⟨vs, H1, I1, r1, v, ev, q1⟩ := hh
  subst ev
  refine ⟨I1.kIn, ?_⟩
  cases r1 with
  | cons rv rn =>
    rename_i v' us'
    cases rn
    show wpAny _ _ (call (.ref C) [v']) _ _ _
    have G1 := gnd_of I1
    obtain ⟨hp, g, dr, tk, os⟩ := s1
    refine wpAny_call (SupX.sup_made T I1.kIn G1 (by have := hr.dp; omega) fun h' tk' e d M => ?_)
    show MkP X pins σ Q (.ref e) ⟨h', g, dr, tk', os⟩
    obtain ⟨t1, hoe⟩ := M.obj
    have hns := M.ns
    obtain ⟨G', g1, g2⟩ := restrict h' fun b => decide (b ≠ e)
    have gk : ∀ b, b ≠ e → G'.get? b = h'.get? b := fun b hb => g1 b (decide_eq_true hb)
    have ge : G'.get? e = none := g2 e (by simp)
    have old : ∀ b o, hp.get? b = some o → G'.get? b = some o := fun b o q => (gk b (Nat.ne_of_lt (Nat.lt_of_lt_of_le (Heap.lt_size q) M.new))).trans (M.keep b o q)
    have ob : ObjOk X.prog X.w (upd H1 d (.xd [(fld, v)])) G' d (.xd [(fld, v)]) :=
      ⟨_, hns.at (fun o q => (gk d M.dne).trans q), fun f => relO_fld rv f⟩
    have J : Inv X pins σ (upd H1 d (.xd [(fld, v)])) ⟨G', g, dr, tk', os⟩ := I1.laid (t' := tk') old M.dbig ob
    refine ⟨e, _, _, ⟨G', g, dr, tk', os⟩, _, .ref C, some d, rfl, J, fun b o q => ?_, ge, hoe, ⟨rfl, rfl⟩, rfl, rfl, ?_, rfl, I1.bare, raises_own T.exC T.tyC, q1 d (I1.hok.fresh M.dbig)⟩
    · by_cases hb : b = e
      · have q' : G'.get? b = some o := q
        rw [hb, ge] at q'; cases q'
      · exact (gk b hb).symm.trans q
    · rw [upd_ne (Ne.symm M.dne)]
      exact I1.hok.fresh M.new
/-- raise X(e) -/
def tRaiseErr (fld : Str) (C : Addr) (W : WX) (ta : TA) : TS := fun _ σ H => tMkErr fld C ta σ H fun cls d H' => W cls d σ H'
theorem ps_raiseErr {a : Expr} {ta : TA} {W : WX} {p pos pos2 : Pos} {k : Nat} (hc : X.calm = true) (T : SupX.ErrTxt X.prog X.K X.mg nmE fld C fI) (hr : Room k X.A) (tk : Takes X W) (ha : PA X [a] ta) (hg : Gl X nmE := by rfl) (hdb : (nmE == ("__debug__" : Str)) = false := by decide)
    (he : starEach (a :: []) X.env = (false, eval a X.env) :: starEach [] X.env := by rfl) (hpl : (backTo pos (starEach [] X.env)).any (·.1) = false := by rfl) :
    PS X (.Raise (some (.Call (.Name nmE p) [a] [] pos)) none pos2) (tRaiseErr fld C W ta) := ps_raise hc tk (pmk_err T hr ha hg hdb he hpl)
/-- e.fld, e the exception that the suite holds (at a; its class cls, its dict d) -/
def tByErr (fld : Str) (C : Addr) (a : Addr) (cls : Value) (d : Option Addr) (te : TE) : TE := fun σ H Q => te σ H fun x H1 => x = .ref a ∧ cls = .ref C ∧ ∃ (dd : Addr) (v : V), d = some dd ∧ H1 dd = some (.xd [(fld, v)]) ∧ Q v H1
theorem pe_byErr {a : Addr} {oe : Obj} {cls : Value} {d : Option Addr} {pn : List (Addr × Obj)} {e : Expr} {te : TE} {pos : Pos} (T : SupX.ErrTxt X.prog X.K X.mg nmE fld C fI) (hz : Zc cls d oe) (hf : ∃ vs, oe.data = .fields vs) (he : PE (X.suite a ((a, oe) :: pn)) e te)
    (hb : attributeBase e fld X.env (eval e X.env) = eval e X.env := by rfl) :
    PE (X.suite a ((a, oe) :: pn)) (.Attribute e fld pos) (tByErr fld C a cls d te) := by
  refine ⟨fun pins s σ H Q I h => ?_⟩
  refine attr_of hb (thn (he.run pins s σ H _ I h) fun u s1 hh => ?_)
  obtain ⟨x, H1, I1, rx, ex, ec, dd, v, ed, ea, q⟩ := hh
  subst ex
  obtain rfl : u = Value.ref a := rx
  subst ec
  subst ed
  obtain ⟨ha, _⟩ := I1.pin (a, oe) (List.mem_append_left _ List.mem_cons_self)
  obtain ⟨vs, hd⟩ := hf
  have hx : ObjOk X.prog X.w H1 s1.heap dd (.xd [(fld, v)]) := I1.hok dd _ ea
  obtain ⟨mA, hns, hr⟩ := hx
  obtain ⟨od, ho, hl⟩ := lookIn_ns hns
  have l : List.lookup fld [(fld, v)] = some v := by simp [List.lookup]
  obtain ⟨u, hu, ru⟩ := RelO.some_of (v := v) (o := mA fld) (by rw [← l]; exact hr fld)
  have J : PySem.W.InstAt s1.heap a oe C (some od) := ⟨ha, hz.1, by unfold PySem.W.notCls; rw [hd] <;> rfl, by rw [hz.2]; exact ho⟩
  exact HandSPX.exc_get I1.kIn J T.ga T.gg T.exC (PySem.W.findObj_own T.hdC T.noN rfl (by rw [hl, hu])) (handed_of ru) ⟨v, H1, I1.tok _, ru, q⟩
end
end HX

set_option Elab.async false
set_option linter.all false
set_option maxRecDepth 100000
set_option maxHeartbeats 2000000
/-! several except clauses, each with the same name (as e) -/
namespace HX
open PySem PySem.Spec PyProof.Rows L2
/-- behind a suite the name's slot is empty -/
def Ends.clr (i : Nat) (D : Ends) : Ends := { nx := fun τ G => D.nx (τ.set i none) G, rt := D.rt, bk := fun τ G => D.bk (τ.set i none) G, ct := fun τ G => D.ct (τ.set i none) G }
def wAll (K : PySem.W.Frag) (i : Nat) (Wo : WX) (D : Ends) : List (Value × (Addr → Value → Option Addr → TS)) → WX
  | [] => Wo
  | (c, t) :: more => fun cl dd τ G => ∃ yes, PySem.W.exmOne K cl c = some yes ∧ (yes = true → ∀ x, G x = none → t x cl dd (Ends.clr i D) (τ.set i (some (.ref x))) G) ∧ (yes = false → wAll K i Wo D more cl dd τ G)
inductive Clauses (X : Cx) (n : Str) : List ExceptHandler → List (Value × (Addr → Value → Option Addr → TS)) → Prop
  | nil : Clauses X n [] []
  | cons {x : Str} {c : Value} {t : Addr → Value → Option Addr → TS} {b : Stmt} {bs : List Stmt} {p q : Pos} {hs : List ExceptHandler} {l : List (Value × (Addr → Value → Option Addr → TS))} (nm : Names X x c)
      (body : ∀ (x : Addr) (ob : Obj) (cl : Value) (dd : Option Addr) (pn : List (Addr × Obj)), Zc cl dd ob → (∃ vs, ob.data = .fields vs) → PSs (X.suite x ((x, ob) :: pn)) (b :: bs) (t x cl dd)) (more : Clauses X n hs l) :
      Clauses X n (.ExceptHandler (some (.Name x p)) (some n) (b :: bs) q :: hs) ((c, t) :: l)
section
variable {X : Cx} {n : Str} {i : Nat} {body : List Stmt} {h1 : ExceptHandler} {hs : List ExceptHandler} {l : List (Value × (Addr → Value → Option Addr → TS))} {pos : Pos} {tb : WX → TS} {Wo : WX}
theorem ps_try_all (st : X.stack = X.env :: X.outer) (fr : X.env.frame = some X.env.locals) (nd : X.N.Nodup) (at_ : X.N[i]? = some n) (lc : X.env.kindOf n = some .local) (out : Takes X Wo)
    (hb : ∀ (W : WX) (pn : List (Addr × Obj)) (xe : Value → Shared → Prop), Takes (X.tr pn xe) W → PassesOwn (model X.prog X.w) X.A X.env xe → PSs (X.tr pn xe) body (tb W)) (cs : Clauses X n (h1 :: hs) l) :
    PS X (.Try body (h1 :: hs) [] [] pos) (fun D σ H => tb (wAll X.K i Wo D l) D σ H) := by
  constructor
  intro pins s σ H D I want
  have okX := I.ok
  have frs1 : X.A.frames = some (X.env :: X.outer) := okX.frames.trans (by rw [st])
  refine wpAny_Try_except ?_
  let after : Value → Shared → Prop := fun u s1 => wpAny (model X.prog X.w) X.A (noteFrame u X.env) (fun _ s2 =>
    wpAny (model X.prog X.w) X.A (setFlight u none) (fun _ s3 => wpAny (model X.prog X.w) X.A (handleBy u X.env (h1 :: hs)) (SP X pins D) X.xe s3) X.xe s2) X.xe s1
  have caught : Takes (X.tr (X.pn ++ pins) after) (wAll X.K i Wo D l) := by
    rintro u s1 ⟨x, gr, s0, pins2, τ, G, cl, dd, rfl, I2, ng, us, sk, nx, eos, bare, want2⟩
    have I0 : Inv X pins τ G s0 := I2.ofTry okX
    rw [show (X.tr (X.pn ++ pins) after).stack = X.env :: X.outer from st] at sk
    show wpAny (model X.prog X.w) X.A (noteFrame (.ref x) X.env) _ _ _
    refine Sky.land Zc.steady frs1 fr sk fun g2 fly us2 => ?_
    have I3 : Inv X pins τ G { s1 with heap := g2 } := I0.landed ng fly.1 (us.trans us2) eos bare
    obtain ⟨ob, vs, gx, zx, dx⟩ := fly.there
    have apart : x ∉ frs (X.env :: X.outer) := by
      intro m
      obtain ⟨_, o2, e2, nf⟩ := fly.2.2.1.mem m
      rw [gx] at e2
      cases e2
      exact nf _ dx
    have xL : x ≠ X.env.locals := fun z => apart (List.mem_filterMap.mpr ⟨X.env, List.mem_cons_self, by rw [fr, z]⟩)
    have xF : x ∉ X.fs := by
      intro m
      obtain ⟨e2, m2, q2⟩ := List.mem_filterMap.mp m
      exact apart (List.mem_filterMap.mpr ⟨e2, List.mem_cons_of_mem _ m2, q2⟩)
    have inS := I3.suite gx dx nx xL xF
    have walkC : ∀ {hs2 : List ExceptHandler} {l2 : List (Value × (Addr → Value → Option Addr → TS))}, Clauses X n hs2 l2 → wAll X.K i Wo D l2 cl dd τ G →
        wpAny (model X.prog X.w) X.A (handleBy (.ref x) X.env hs2) (SP X pins D) X.xe { s1 with heap := g2 } := by
      intro hs2 l2 c2
      induction c2 with
      | nil =>
        intro w
        refine wpAny_handleBy_nil ?_
        obtain ⟨_, _, _, ob2, vs2, Tb, oTb, ts2, gx2, _, dx2, v1, _⟩ := id fly
        unfold PySem.passOn
        refine wpAny_bind (wpAny_field gx2 dx2 v1 ?_)
        have isnt : ¬ ((Value.ref Tb == Value.none) = true) := by simp
        rw [if_neg isnt]
        have leave : wpAny (model X.prog X.w) X.A (setFlight (.ref x) X.env.frame) (fun _ s4 => wpAny (model X.prog X.w) X.A (throw (.ref x) : Sem Flow) (SP X pins D) X.xe s4) X.xe { s1 with heap := g2 } := by
          rw [fr]
          refine HandSPX.setFlight_upZ fly fun g4 held us4 => ?_
          refine wpAny_throw (out _ _ ?_)
          refine ⟨x, gr, s0, pins, τ, G, cl, dd, rfl, I0, ng, (us.trans us2).trans us4, ?_, nx, eos, bare, w⟩
          rw [st]
          exact .inr (.inr held)
        first
          | exact wpAny_bind leave
          | exact wpAny_bind (wpAny_pure (wpAny_bind leave))
      | @cons xn c t b bs p q hs3 l3 nm suite more ih =>
        intro w
        obtain ⟨yes, match_, yesW, noW⟩ := w
        refine wpAny_handleBy_cons (codeAny_handlers_test ?_) (by intro z; cases z)
        have ty : PySem.W.Looks (model X.prog X.w) g2 (typeOf (.ref x)) cl := fun A Q E s4 k z => wpAny_typeOf_ref (k _ _ gx) (by rw [zx.1]; exact z)
        have looks := PySem.W.exm_one (M := model X.prog X.w) I3.kIn ty match_
        have nameOf : ∀ {Q : Value → Shared → Prop} {E : Value → Shared → Prop}, Q c { s1 with heap := g2 } → wpAny (model X.prog X.w) (X.A.mark (some (.ref x))) (eval (.Name xn p) X.env) Q E { s1 with heap := g2 } := by
          intro Q E z
          obtain ⟨gl, db, m | ⟨m, bt, nn⟩⟩ := nm
          · exact ld_glob (X := X.suite x ((x, ob) :: (X.pn ++ pins))) inS gl m z db
          · exact ld_blt (X := X.suite x ((x, ob) :: (X.pn ++ pins))) inS gl m bt z nn db
        refine nameOf (looks.here ?_)
        cases yes with
        | false =>
          show wpAny _ X.A (handleBy (.ref x) X.env hs3) _ _ _
          exact ih (noW rfl)
        | true =>
          refine codeAny_handlers_suite_as ?_
          refine HandSPX.lands_againZ fly fun g4 fly4 us4 => ?_
          have I4 : Inv X pins τ G { s1 with heap := g4 } := I0.landed ng fly4.1 ((us.trans us2).trans us4) eos bare
          obtain ⟨ob4, vs4, gx4, zx4, dx4⟩ := fly4.there
          have inS4 := I4.suite gx4 dx4 nx xL xF
          refine store_ok (X := X.suite x ((x, ob4) :: (X.pn ++ pins))) (v := .ref x) inS4 nd at_ (.inl lc) rfl (fun s5 inS5 => ?_) (.inr lc)
          refine wpAny_mono ((suite x ob4 cl dd (X.pn ++ pins) zx4 ⟨_, dx4⟩).run [] s5 _ G _ inS5 (yesW rfl x nx)) (fun fl s6 got => ?_) (fun _ _ z => False.elim z)
          have gone : ∀ {τ6 : L2.St} {G6 : Hp} {Q : Shared → Prop}, Inv (X.suite x ((x, ob4) :: (X.pn ++ pins))) [] τ6 G6 s6 → (∀ s7, Inv X pins (τ6.set i none) G6 s7 → Q s7) →
              wpAny (model X.prog X.w) X.A (do bindName X.env n .none; unbindBehindTheSuite X.env n q) (fun _ s7 => Q s7) X.xe s6 := by
            intro τ6 G6 Q in6 z
            exact gone_ok (in6.unsuite okX) nd at_ lc z
          cases fl with
          | ret u =>
            obtain ⟨v6, τ6, G6, in6, r6, z⟩ := got
            exact gone in6 fun s7 I7 => ⟨_, _, _, I7, r6, z⟩
          | next =>
            obtain ⟨τ6, G6, in6, z⟩ := got
            exact gone in6 fun s7 I7 => ⟨_, _, I7, z⟩
          | brk =>
            obtain ⟨τ6, G6, in6, z⟩ := got
            exact gone in6 fun s7 I7 => ⟨_, _, I7, z⟩
          | cont =>
            obtain ⟨τ6, G6, in6, z⟩ := got
            exact gone in6 fun s7 I7 => ⟨_, _, I7, z⟩
    exact walkC cs want2
  refine wpAny_mono ((hb (wAll X.K i Wo D l) (X.pn ++ pins) after caught PassesOwn.looking).run [] s σ H D (I.toTry _) want) (fun fl s1 got => ?_) (fun _ _ z => z)
  cases fl with
  | ret u =>
    obtain ⟨v, τ, G, I2, r2, z⟩ := got
    exact ⟨v, τ, G, I2.ofTry okX, r2, z⟩
  | next =>
    obtain ⟨τ, G, I2, z⟩ := got
    exact wpAny_execs_nil ⟨τ, G, I2.ofTry okX, z⟩
  | brk =>
    obtain ⟨τ, G, I2, z⟩ := got
    exact ⟨τ, G, I2.ofTry okX, z⟩
  | cont =>
    obtain ⟨τ, G, I2, z⟩ := got
    exact ⟨τ, G, I2.ofTry okX, z⟩
end
/-! ### isinstance of the error that a suite holds, with a dict or without -/
def rIsH (K : PySem.W.Frag) (a : Addr) (cls : Value) (d : Option Addr) : List V → Hp → VK → Prop := fun xs H Q => ∃ (C : Addr) (c : V) (cv : Value) (b : Bool), xs = [.ref a, c] ∧ ClsV c cv ∧ cls = .ref C ∧ ExcC K C ∧
  (∀ dx, d = some dx → ∃ fs, H dx = some (.xd fs)) ∧ PySem.W.kitOne K (.ref C) cv = some b ∧ Q (.bl b) H
theorem call_isH {X : Cx} {a : Addr} {cls : Value} {d : Option Addr} {oe : Obj} {pn : List (Addr × Obj)} (hz : Zc cls d oe) (hf : ∃ vs, oe.data = .fields vs) : CallR (X.suite a ((a, oe) :: pn)) (.builtin "isinstance") (rIsH X.K a cls d) := by
  intro pins s σ H xs us Q I r h
  obtain ⟨C, c, cv, b, rfl, k, rfl, T, hd, e, q⟩ := h
  obtain ⟨u1, u2, rfl, r1, r2⟩ := vals2 r
  have e2 := k.eq r2
  subst e2
  cases (show u1 = Value.ref a from r1)
  obtain ⟨ha, _⟩ := I.pin (a, oe) (List.mem_append_left _ List.mem_cons_self)
  obtain ⟨vs, hv⟩ := hf
  have nocls : PySem.W.notCls oe = true := by unfold PySem.W.notCls; rw [hv] <;> rfl
  obtain ⟨od, J⟩ : ∃ od, PySem.W.InstAt s.heap a oe C od := by
    cases d with
    | none => exact ⟨none, ha, hz.1, nocls, by rw [hz.2]; trivial⟩
    | some dx =>
      obtain ⟨fs, hx⟩ := hd dx rfl
      obtain ⟨mA, hns, _⟩ := (show ObjOk X.prog X.w H s.heap dx (.xd fs) from I.hok dx _ hx)
      obtain ⟨od, hod, _⟩ := lookIn_ns hns
      exact ⟨some od, ha, hz.1, nocls, by rw [hz.2]; exact hod⟩
  have hcl : (PySem.W.clsIn X.K C).isSome = true := by
    obtain ⟨cd, hc, _⟩ := PySem.W.any_some T.hd
    rw [hc]
    rfl
  exact PySem.W.kia_one (PySem.W.kitx_exc hcl T.hg T.hk T.hs T.ha T.hn T.ht T.hm) I.kIn J e (fun z => nomatch z) fun tk => ⟨.bl b, H, I.tok tk, rfl, q⟩
end HX

set_option Elab.async false
set_option linter.all false
set_option maxRecDepth 100000
set_option maxHeartbeats 2000000
/-! errors whose context is None (HandS.ExcCtx), and unpacking within an except suite -/
namespace HX
open PySem PySem.Spec PyProof.Rows L2
theorem takes0N {X : Cx} : L2N.Takes X (fun _ _ _ _ => False) := fun _ _ x => by
  obtain ⟨_, _, _, _, _, _, _, _, _, _, _, _, _, _, _, _, z⟩ := x
  exact z.elim
section
variable {P : Program} {w : World} {K : PySem.W.Frag} {mg : Str → Option Value} {base : Heap}
theorem okXN {x qual : Str} {st : Stmt} {f : Addr} {fd : FuncData} {N ps : List Str} {k : Nat} {sp : Sp} (F : Fun K x qual st f fd) (S : FnScope N ps (defScope st)) (len : ∀ vs H Q E, sp vs H Q E → vs.length = ps.length)
    (hbody : ∀ (cdv : Value) (A : Around) (outer : List Env) (s : Shared) (H : Hp) (vs : List V) (Q : VK) (E : XK), Room k (A.deeper (envOfC qual (defScope st) s.heap.objs.size f cdv)) → sp vs H Q E →
      ∃ t, PSs (cxOf (L2N.CX P w) P w K mg base N qual (defScope st) f cdv A outer s H E) (defBody st) t ∧ t { nx := fun _ H' => Q .non H', rt := Q } (start N vs) H) : FnOk P w K mg base (L2N.CX P w) (k + 1) f fd ps sp := by
  obtain ⟨oc, od, kV, doc, pm, an, cdv, ct, osl, rfl, lk, hcd⟩ := F.ex
  exact fn_of lk hcd S len fun A outer s H vs Q E hr hsp => hbody cdv A outer s H vs Q E hr hsp
end
section
variable {X : Cx} {nmE fld : Str} {C fI : Addr}
theorem pmk_errN {a : Expr} {ta : TA} {p pos : Pos} {k : Nat} (T : SupX.ErrTxt X.prog X.K X.mg nmE fld C fI) (hr : Room k X.A) (ha : PA X [a] ta) (hg : Gl X nmE) (hdb : (nmE == ("__debug__" : Str)) = false)
    (he : starEach (a :: []) X.env = (false, eval a X.env) :: starEach [] X.env := by rfl) (hpl : (backTo pos (starEach [] X.env)).any (·.1) = false := by rfl) :
    L2N.PMk X (.Call (.Name nmE p) [a] [] pos) (tMkErr fld C ta) := by
  intro pins s σ H Q I h
  refine wpAny_Call_Name_kw (ld_glob I hg T.gC ?_ hdb)
  refine PySem.W.callWith_K (h₀ := X.base) I.ok.mod.kin T.kC (thn (ha.run pos pins s σ H _ I h) fun us s1 hh => ?_) he hpl
  obtain ⟨vs, H1, I1, r1, v, ev, q1⟩ := hh
  subst ev
  refine ⟨I1.kIn, ?_⟩
  cases r1 with
  | cons rv rn =>
    rename_i v' us'
    cases rn
    show wpAny _ _ (call (.ref C) [v']) _ _ _
    have G1 := gnd_of I1
    obtain ⟨hp, g, dr, tk, os⟩ := s1
    refine wpAny_call (SupX.sup_made T I1.kIn G1 (by have := hr.dp; omega) fun h' tk' e d M => ?_)
    show L2N.MkP X pins σ Q (.ref e) ⟨h', g, dr, tk', os⟩
    obtain ⟨t1, hoe⟩ := M.obj
    have hns := M.ns
    obtain ⟨G', g1, g2⟩ := restrict h' fun b => decide (b ≠ e)
    have gk : ∀ b, b ≠ e → G'.get? b = h'.get? b := fun b hb => g1 b (decide_eq_true hb)
    have ge : G'.get? e = none := g2 e (by simp)
    have old : ∀ b o, hp.get? b = some o → G'.get? b = some o := fun b o q => (gk b (Nat.ne_of_lt (Nat.lt_of_lt_of_le (Heap.lt_size q) M.new))).trans (M.keep b o q)
    have ob : ObjOk X.prog X.w (upd H1 d (.xd [(fld, v)])) G' d (.xd [(fld, v)]) :=
      ⟨_, hns.at (fun o q => (gk d M.dne).trans q), fun f => relO_fld rv f⟩
    have J : Inv X pins σ (upd H1 d (.xd [(fld, v)])) ⟨G', g, dr, tk', os⟩ := I1.laid (t' := tk') old M.dbig ob
    refine ⟨e, _, _, ⟨G', g, dr, tk', os⟩, _, .ref C, some d, rfl, J, fun b o q => ?_, ge, hoe, ⟨rfl, rfl, fun vs q => by cases q; rfl⟩, rfl, rfl, ?_, rfl, I1.bare, raises_own T.exC T.tyC, q1 d (I1.hok.fresh M.dbig)⟩
    · by_cases hb : b = e
      · have q' : G'.get? b = some o := q
        rw [hb, ge] at q'; cases q'
      · exact (gk b hb).symm.trans q
    · rw [upd_ne (Ne.symm M.dne)]
      exact I1.hok.fresh M.new
theorem ps_raiseErrN {a : Expr} {ta : TA} {W : WX} {p pos pos2 : Pos} {k : Nat} (hc : X.calm = true) (T : SupX.ErrTxt X.prog X.K X.mg nmE fld C fI) (hr : Room k X.A) (tk : L2N.Takes X W) (ha : PA X [a] ta) (hg : Gl X nmE := by rfl) (hdb : (nmE == ("__debug__" : Str)) = false := by decide)
    (he : starEach (a :: []) X.env = (false, eval a X.env) :: starEach [] X.env := by rfl) (hpl : (backTo pos (starEach [] X.env)).any (·.1) = false := by rfl) :
    PS X (.Raise (some (.Call (.Name nmE p) [a] [] pos)) none pos2) (tRaiseErr fld C W ta) 
  := L2N.ps_raise hc tk (pmk_errN T hr ha hg hdb he hpl)

end
section
variable {prog : Program} {w : World} {A : Around} {E : Value → Shared → Prop} {s : Shared}
open HotX
theorem tup_end_hot {it t x1 : Addr} {i : Nat} {items : Array Value} {Q : Option Value → Shared → Prop} (hot : HotAt A x1 s.heap) (ne : x1 ≠ it) (hit : IsTupIter s.heap it t i) (ht : IsTup s.heap t items) (hx : items[i]? = none)
    (hQ : ∀ h', Heap.ExtBut it s.heap h' → Q none { s with heap := h' }) : wpAny (model prog w) A (pyNext (.ref it)) Q E s := by
  obtain ⟨o, ho, hc, hd⟩ := id hit
  obtain ⟨ol, hol, _, nl, hdl⟩ := ht
  obtain ⟨hh, o1, vs1, h1, d1, c1⟩ := hot
  unfold pyNext
  refine wpAny_bind (wpAny_attempt (wpAny_callSpecial?_slot (name := Str.ofString "__next__") hit.typeIs slot_tupleiter_next
    (wpAny_call_entry slot_tupleiter_next hit.typeIs entry_tupleiter_next ?_ (args_tupleiter_next _))))
  show wpAny _ _ (field (.ref it) 0 >>= _) _ _ s
  refine wpAny_bind (wpAny_field ho hd (x := .ref t) rfl ?_)
  show wpAny _ _ (if (Value.ref t == Value.none) = true then _ else _) _ _ s
  rw [if_neg (show ¬ ((Value.ref t == Value.none) = true) from Bool.false_ne_true)]
  show wpAny _ _ (field (.ref it) 1 >>= _) _ _ s
  refine wpAny_bind (wpAny_field ho hd (x := .int i 0) rfl ?_)
  show wpAny _ _ (seqItems? (.ref t) >>= _) _ _ s
  refine wpAny_bind (wpAny_seqItems hol hdl ?_)
  simp only [Int.toNat_natCast, hx]
  refine wpAny_bind (wpAny_rule (wpAny_bind (wpAny_setField ho hd (by simp) ?_)))
  have g1 : ∀ f, (s.heap.update it f).get? x1 = some o1 := fun f => (Heap.get?_update_other _ _ (Ne.symm ne)).trans h1
  show wpAny _ _ (newExc (.type "StopIteration") [] >>= _) _ _ _
  refine wpAny_bind ?_
  simp only [newExc, newTuple]
  refine wpAny_bind (wpAny_newObj_type ?_ (by size_fits))
  refine wpAny_bind (m := firstArgMember _ _) (wpAny_of_eq (a := Value.none) (by first | rfl | (simp only [firstArgMember]; rfl)) ?_)
  refine wpAny_newObj_type ?_ (by size_fits)
  refine raiseNew_hot ⟨hh, o1, vs1, Heap.get?_push_of_some _ (Heap.get?_push_of_some _ (g1 _)), d1, c1⟩ (Nat.ne_of_lt (Heap.lt_size (Heap.get?_push_of_some _ (g1 _)))) (Heap.get?_push_size _ rfl) rfl (by first | (simp; done) | (simp; omega) | (simp only [Array.size_append]; simp; omega)) ?_
  refine wpAny_bind (wpAny_isInstance (T := "StopIteration") (b := true) ⟨_, Heap.get?_update_self _ (Heap.get?_push_size _ rfl) rfl, rfl⟩ isSubtype_stop ?_)
  refine wpAny_pure (hQ _ fun b ob nb e => ?_)
  have e1 : ∀ f, (s.heap.update it f).get? b = some ob := fun f => (Heap.get?_update_other _ _ (Ne.symm nb)).trans e
  rw [Heap.get?_update_other _ _ (Nat.ne_of_gt (Heap.lt_size (Heap.get?_push_of_some _ (e1 _))))]
  exact Heap.get?_push_of_some _ (Heap.get?_push_of_some _ (e1 _))
theorem unpack_hot {t x1 : Addr} {items : Array Value} {Q : List Value → Shared → Prop} (hot : HotAt A x1 s.heap) (ht : IsTup s.heap t items)
    (hQ : ∀ h', Heap.ExtBut s.heap.objs.size s.heap h' → Q items.toList { s with heap := h' }) : wpAny (model prog w) A (unpackItems (.ref t) items.size none) Q E s := by
  have hlt : t ≠ s.heap.objs.size := by obtain ⟨o, ho, _⟩ := ht; exact Nat.ne_of_lt (Heap.lt_size ho)
  obtain ⟨hh, o1, vs1, h1, d1, c1⟩ := hot
  have hx1 : x1 ≠ s.heap.objs.size := Nat.ne_of_lt (Heap.lt_size h1)
  unfold unpackItems
  refine wpAny_bind ?_
  unfold notIterableAtAll
  refine wpAny_bind (wpAny_specialOf ht.typeIs slot_tuple_iter.lookup (wpAny_pure ?_))
  simp only [Bool.false_eq_true, if_false]
  refine wpAny_bind (wpAny_holding (iter_tuple ht ?_))
  refine wpAny_bind (wpAny_holding (draw_tuple hlt items.size 0 _ _ ⟨_, Heap.get?_push_size _ rfl, rfl, rfl⟩ (ht.push _) (by omega) fun h₁ hit₁ hs₁ => ?_))
  have all : List.take items.size (List.drop 0 items.toList) = items.toList := by
    rw [List.drop_zero]
    exact List.take_of_length_le (by simp)
  rw [all, if_neg (by simp)]
  have ht₁ : IsTup h₁ t items := (ht.push _).extBut hs₁.extBut hlt
  refine wpAny_bind (wpAny_holding (tup_end_hot ⟨hh, o1, vs1, hs₁.extBut x1 o1 hx1 (Heap.get?_push_of_some _ h1), d1, c1⟩ hx1 hit₁ ht₁ (by simp) fun h₂ he₂ => ?_))
  simp only [Option.isSome_none, Bool.false_eq_true, if_false]
  exact wpAny_pure (hQ _ fun b o hb e => he₂ b o hb (hs₁.extBut b o hb (Heap.get?_push_of_some _ e)))
end
/-- a, b = x, y within an except suite -/
theorem ps_parH {X : Cx} {i j : Nat} {x y : Str} {a b : Expr} {ta : TA} {px py pt pos : Pos} {kt k2 pt2} (hot : L2H.HotC X) (hN : X.N.Nodup) (hi : X.N[i]? = some x) (hj : X.N[j]? = some y) (hij : i ≠ j)
    (hx : X.env.scope.names.lookup x = some .local) (hy : X.env.scope.names.lookup y = some .local) (ha : PA X [a, b] ta)
    (hw : swappedStores [.Tuple [.Name x px, .Name y py] kt pt] (.Tuple [a, b] k2 pt2) X.env = pure (some [x, y]))
    (hs : swapsWithSole [.Tuple [.Name x px, .Name y py] kt pt] (.Tuple [a, b] k2 pt2) pos.line X.env = pure false := by rfl) :
    PS X (.Assign [.Tuple [.Name x px, .Name y py] kt pt] (.Tuple [a, b] k2 pt2) pos) (tPar i j ta) := by
  refine ⟨fun pins s σ H D I h => ?_⟩
  rw [exec_Assign_arm]
  refine wpAny_bind (wpAny_standAt ?_)
  rw [hs]
  refine wpAny_bind (wpAny_pure ?_)
  rw [if_neg (by decide)]
  refine wpAny_bind (Tuple_ (thn (ha.run _ pins s σ H _ I h) fun us s1 ⟨vs, H1, I1, r1, q1⟩ => ?_))
  obtain ⟨v, w, rfl, q1⟩ := q1
  obtain ⟨u1, u2, rfl, rv, rw'⟩ := vals2 r1
  refine wpAny_newObj_type ?_ (by show 2 ≤ sizeLine; decide)
  have I2 : Inv X pins σ H1 { s1 with heap := s1.heap.push { cls := .type "tuple", data := .seq [u1, u2].toArray } } := I1.kept (t' := s1.toks) fun b o e => Heap.get?_push_of_some _ e
  rw [hw]
  refine wpAny_bind (wpAny_pure ?_)
  obtain ⟨x1, ht⟩ := hot.at I2
  show wpAny (model X.prog X.w) X.A (do rule "assign.swapped-stores"; let items ← unpackItems (.ref s1.heap.objs.size) 2 none; assignInOrder [fun v => bindName X.env y v, fun v => bindName X.env x v] items.reverse; pure Flow.next) _ _ _
  refine wpAny_bind (wpAny_rule (wpAny_bind (unpack_hot (items := #[u1, u2]) ht (IsTup.new s1.heap _) fun h' hx' => ?_)))
  have I3 := I2.kept (h' := h') (t' := s1.toks) fun b o e => hx' b o (Nat.ne_of_lt (Heap.lt_size e)) e
  show wpAny _ _ (assignInOrder [fun v => bindName X.env y v, fun v => bindName X.env x v] [u2, u1] >>= fun _ => pure Flow.next) _ _ _
  refine wpAny_bind (assignInOrder_cons (wpAny_bindName (store_ok I3 hN hj (.inl hy) rw' (fun s2 I4 => ?_) (.inr hy))))
  refine assignInOrder_cons (wpAny_bindName (store_ok I4 hN hi (.inl hx) rv (fun s3 I5 => assignInOrder_nil (wpAny_pure ?_)) (.inr hx)))
  rw [List.set_comm _ _ (Ne.symm hij)] at I5
  exact ⟨_, H1, I5, q1⟩
theorem hotC_of {X : Cx} {a : Addr} {oe : Obj} {cls : Value} {d : Option Addr} {pn : List (Addr × Obj)} (hz : L2N.Zn cls d oe) (hf : ∃ vs, oe.data = .fields vs) : L2H.HotC (X.suite a ((a, oe) :: pn)) :=
  let ⟨vs, h⟩ := hf; ⟨(a, oe), ⟨rfl, vs, h, hz.2.2 vs h⟩, List.mem_cons_self⟩
inductive ClausesN (X : Cx) (n : Str) : List ExceptHandler → List (Value × (Addr → Value → Option Addr → TS)) → Prop
  | nil : ClausesN X n [] []
  | cons {x : Str} {c : Value} {t : Addr → Value → Option Addr → TS} {b : Stmt} {bs : List Stmt} {p q : Pos} {hs : List ExceptHandler} {l : List (Value × (Addr → Value → Option Addr → TS))} (nm : Names X x c)
      (body : ∀ (x : Addr) (ob : Obj) (cl : Value) (dd : Option Addr) (pn : List (Addr × Obj)), L2N.Zn cl dd ob → (∃ vs, ob.data = .fields vs) → PSs (X.suite x ((x, ob) :: pn)) (b :: bs) (t x cl dd)) (more : ClausesN X n hs l) :
      ClausesN X n (.ExceptHandler (some (.Name x p)) (some n) (b :: bs) q :: hs) ((c, t) :: l)
section
variable {X : Cx} {n : Str} {i : Nat} {body : List Stmt} {h1 : ExceptHandler} {hs : List ExceptHandler} {l : List (Value × (Addr → Value → Option Addr → TS))} {pos : Pos} {tb : WX → TS} {Wo : WX}
theorem ps_try_allN (st : X.stack = X.env :: X.outer) (fr : X.env.frame = some X.env.locals) (nd : X.N.Nodup) (at_ : X.N[i]? = some n) (lc : X.env.kindOf n = some .local) (out : L2N.Takes X Wo)
    (hb : ∀ (W : WX) (pn : List (Addr × Obj)) (xe : Value → Shared → Prop), L2N.Takes (X.tr pn xe) W → PassesOwn (model X.prog X.w) X.A X.env xe → PSs (X.tr pn xe) body (tb W)) (cs : ClausesN X n (h1 :: hs) l) :
    PS X (.Try body (h1 :: hs) [] [] pos) (fun D σ H => tb (wAll X.K i Wo D l) D σ H) := by
  constructor
  intro pins s σ H D I want
  have okX := I.ok
  have frs1 : X.A.frames = some (X.env :: X.outer) := okX.frames.trans (by rw [st])
  refine wpAny_Try_except ?_
  let after : Value → Shared → Prop := fun u s1 => wpAny (model X.prog X.w) X.A (noteFrame u X.env) (fun _ s2 =>
    wpAny (model X.prog X.w) X.A (setFlight u none) (fun _ s3 => wpAny (model X.prog X.w) X.A (handleBy u X.env (h1 :: hs)) (SP X pins D) X.xe s3) X.xe s2) X.xe s1
  have caught : L2N.Takes (X.tr (X.pn ++ pins) after) (wAll X.K i Wo D l) := by
    rintro u s1 ⟨x, gr, s0, pins2, τ, G, cl, dd, rfl, I2, ng, us, sk, nx, eos, bare, want2⟩
    have I0 : Inv X pins τ G s0 := I2.ofTry okX
    rw [show (X.tr (X.pn ++ pins) after).stack = X.env :: X.outer from st] at sk
    show wpAny (model X.prog X.w) X.A (noteFrame (.ref x) X.env) _ _ _
    refine L2N.Sky.land L2N.Zn.steady frs1 fr sk fun g2 fly us2 => ?_
    have I3 : Inv X pins τ G { s1 with heap := g2 } := I0.landed ng fly.1 (us.trans us2) eos bare
    obtain ⟨ob, vs, gx, zx, dx⟩ := fly.there
    have apart : x ∉ frs (X.env :: X.outer) := by
      intro m
      obtain ⟨_, o2, e2, nf⟩ := fly.2.2.1.mem m
      rw [gx] at e2
      cases e2
      exact nf _ dx
    have xL : x ≠ X.env.locals := fun z => apart (List.mem_filterMap.mpr ⟨X.env, List.mem_cons_self, by rw [fr, z]⟩)
    have xF : x ∉ X.fs := by
      intro m
      obtain ⟨e2, m2, q2⟩ := List.mem_filterMap.mp m
      exact apart (List.mem_filterMap.mpr ⟨e2, List.mem_cons_of_mem _ m2, q2⟩)
    have inS := I3.suite gx dx nx xL xF
    have walkC : ∀ {hs2 : List ExceptHandler} {l2 : List (Value × (Addr → Value → Option Addr → TS))}, ClausesN X n hs2 l2 → wAll X.K i Wo D l2 cl dd τ G →
        wpAny (model X.prog X.w) X.A (handleBy (.ref x) X.env hs2) (SP X pins D) X.xe { s1 with heap := g2 } := by
      intro hs2 l2 c2
      induction c2 with
      | nil =>
        intro w
        refine wpAny_handleBy_nil ?_
        obtain ⟨_, _, _, ob2, vs2, Tb, oTb, ts2, gx2, _, dx2, v1, _⟩ := id fly
        unfold PySem.passOn
        refine wpAny_bind (wpAny_field gx2 dx2 v1 ?_)
        have isnt : ¬ ((Value.ref Tb == Value.none) = true) := by simp
        rw [if_neg isnt]
        have leave : wpAny (model X.prog X.w) X.A (setFlight (.ref x) X.env.frame) (fun _ s4 => wpAny (model X.prog X.w) X.A (throw (.ref x) : Sem Flow) (SP X pins D) X.xe s4) X.xe { s1 with heap := g2 } := by
          rw [fr]
          refine HandSPX.setFlight_upZ fly fun g4 held us4 => ?_
          refine wpAny_throw (out _ _ ?_)
          refine ⟨x, gr, s0, pins, τ, G, cl, dd, rfl, I0, ng, (us.trans us2).trans us4, ?_, nx, eos, bare, w⟩
          rw [st]
          exact .inr (.inr held)
        first
          | exact wpAny_bind leave
          | exact wpAny_bind (wpAny_pure (wpAny_bind leave))
      | @cons xn c t b bs p q hs3 l3 nm suite more ih =>
        intro w
        obtain ⟨yes, match_, yesW, noW⟩ := w
        refine wpAny_handleBy_cons (codeAny_handlers_test ?_) (by intro z; cases z)
        have ty : PySem.W.Looks (model X.prog X.w) g2 (typeOf (.ref x)) cl := fun A Q E s4 k z => wpAny_typeOf_ref (k _ _ gx) (by rw [zx.1]; exact z)
        have looks := PySem.W.exm_one (M := model X.prog X.w) I3.kIn ty match_
        have nameOf : ∀ {Q : Value → Shared → Prop} {E : Value → Shared → Prop}, Q c { s1 with heap := g2 } → wpAny (model X.prog X.w) (X.A.mark (some (.ref x))) (eval (.Name xn p) X.env) Q E { s1 with heap := g2 } := by
          intro Q E z
          obtain ⟨gl, db, m | ⟨m, bt, nn⟩⟩ := nm
          · exact ld_glob (X := X.suite x ((x, ob) :: (X.pn ++ pins))) inS gl m z db
          · exact ld_blt (X := X.suite x ((x, ob) :: (X.pn ++ pins))) inS gl m bt z nn db
        refine nameOf (looks.here ?_)
        cases yes with
        | false =>
          show wpAny _ X.A (handleBy (.ref x) X.env hs3) _ _ _
          exact ih (noW rfl)
        | true =>
          refine codeAny_handlers_suite_as ?_
          refine HandSPX.lands_againZ fly fun g4 fly4 us4 => ?_
          have I4 : Inv X pins τ G { s1 with heap := g4 } := I0.landed ng fly4.1 ((us.trans us2).trans us4) eos bare
          obtain ⟨ob4, vs4, gx4, zx4, dx4⟩ := fly4.there
          have inS4 := I4.suite gx4 dx4 nx xL xF
          refine store_ok (X := X.suite x ((x, ob4) :: (X.pn ++ pins))) (v := .ref x) inS4 nd at_ (.inl lc) rfl (fun s5 inS5 => ?_) (.inr lc)
          refine wpAny_mono ((suite x ob4 cl dd (X.pn ++ pins) zx4 ⟨_, dx4⟩).run [] s5 _ G _ inS5 (yesW rfl x nx)) (fun fl s6 got => ?_) (fun _ _ z => False.elim z)
          have gone : ∀ {τ6 : L2.St} {G6 : Hp} {Q : Shared → Prop}, Inv (X.suite x ((x, ob4) :: (X.pn ++ pins))) [] τ6 G6 s6 → (∀ s7, Inv X pins (τ6.set i none) G6 s7 → Q s7) →
              wpAny (model X.prog X.w) X.A (do bindName X.env n .none; unbindBehindTheSuite X.env n q) (fun _ s7 => Q s7) X.xe s6 := by
            intro τ6 G6 Q in6 z
            exact gone_ok (in6.unsuite okX) nd at_ lc z
          cases fl with
          | ret u =>
            obtain ⟨v6, τ6, G6, in6, r6, z⟩ := got
            exact gone in6 fun s7 I7 => ⟨_, _, _, I7, r6, z⟩
          | next =>
            obtain ⟨τ6, G6, in6, z⟩ := got
            exact gone in6 fun s7 I7 => ⟨_, _, I7, z⟩
          | brk =>
            obtain ⟨τ6, G6, in6, z⟩ := got
            exact gone in6 fun s7 I7 => ⟨_, _, I7, z⟩
          | cont =>
            obtain ⟨τ6, G6, in6, z⟩ := got
            exact gone in6 fun s7 I7 => ⟨_, _, I7, z⟩
    exact walkC cs want2
  refine wpAny_mono ((hb (wAll X.K i Wo D l) (X.pn ++ pins) after caught PassesOwn.looking).run [] s σ H D (I.toTry _) want) (fun fl s1 got => ?_) (fun _ _ z => z)
  cases fl with
  | ret u =>
    obtain ⟨v, τ, G, I2, r2, z⟩ := got
    exact ⟨v, τ, G, I2.ofTry okX, r2, z⟩
  | next =>
    obtain ⟨τ, G, I2, z⟩ := got
    exact wpAny_execs_nil ⟨τ, G, I2.ofTry okX, z⟩
  | brk =>
    obtain ⟨τ, G, I2, z⟩ := got
    exact ⟨τ, G, I2.ofTry okX, z⟩
  | cont =>
    obtain ⟨τ, G, I2, z⟩ := got
    exact ⟨τ, G, I2.ofTry okX, z⟩
end
end HX

set_option Elab.async false
set_option linter.all false
set_option maxRecDepth 100000
set_option maxHeartbeats 2000000

namespace Kx
open PySem PySem.Spec PyProof.Rows L2 HX
open Evl (Ex)
local macro_rules | `(tactic| walk_at "side") => `(tactic| first | assumption | ((try dsimp only); first | assumption | decide +kernel | omega | exact ⟨by decide, by decide⟩ | (left; decide) | (left; omega) | (refine Or.inl ⟨?_, ?_⟩ <;> omega) | (refine Or.inr ⟨?_, ?_⟩ <;> omega)))
local macro_rules | `(tactic| walk_at "heap") => `(tactic| first | assumption | exact upd_same | exact Or.inl (by assumption) | exact Or.inl upd_same)
local macro_rules | `(tactic| walk_at "item") => `(tactic| first | exact rfl | exact atI_nat (j := 0) rfl | exact atI_nat (j := 1) rfl | exact atI_nat (j := 2) rfl | assumption)
local macro_rules | `(tactic| walk_at "rd") => `(tactic| repeat (first
  | ((with_reducible refine' go_var ?hv ?_); (case hv => exact rfl))
  | with_reducible refine' go_c ?_
  | with_reducible refine' go_op ?_
  | with_reducible refine' go_seq ?_
  | with_reducible refine' go_asg ?_
  | with_reducible refine' go_name ?_
  | with_reducible refine' go_cons ?_
  | with_reducible refine' go_nil ?_
  | with_reducible refine' go_cb ?_
  | with_reducible refine' go_call ?_
  | with_reducible refine' go_ifS ?_
  | with_reducible refine' go_test ?_
  | with_reducible refine' go_bl ?_
  | with_reducible refine' go_ret ?_
  | with_reducible refine' go_I0 ?_
  | ((with_reducible refine' go_I ?cc ?_); (case cc => walk_at "side"))
  | ((with_reducible refine' go_ixL ?hh ?hk ?_); (case hh => walk_at "heap"); (case hk => walk_at "item"))
  | ((with_reducible refine' go_ixT ?hh ?hk ?_); (case hh => walk_at "heap"); (case hk => walk_at "item"))
  | ((with_reducible refine' go_lenL ?hh ?_); (case hh => walk_at "heap"))
  | ((with_reducible refine' go_lenT ?hh ?_); (case hh => walk_at "heap"))
  | ((with_reducible refine' go_setL ?hh ?hk ?_); (case hh => walk_at "heap"); (case hk => walk_at "item"))
  | with_reducible refine' go_abs ?_
  | with_reducible refine' go_max ?_
  | with_reducible refine' go_min ?_
  | with_reducible refine' go_int ?_
  | with_reducible refine' go_intB ?_
  | (with_reducible refine' go_eq rfl ?_)
  | (with_reducible refine' go_ne rfl ?_)
  | with_reducible refine' go_isN ?_
  | with_reducible refine' go_notN ?_
  | with_reducible refine' go_if ?_
  | with_reducible refine' go_sub ?_
  | with_reducible refine' go_par ?_
  | with_reducible refine' go_sl ?_
  | with_reducible refine' go_part ?_
  | with_reducible refine' go_pint ?_
  | with_reducible refine' go_nopart ?_
  | ((with_reducible refine' go_lenL ?hh ?_); (case hh => walk_at "heap"))
  | ((with_reducible refine' go_lenT ?hh ?_); (case hh => walk_at "heap"))
  | ((with_reducible refine' go_lenS ?hh ?_); (case hh => assumption))
  | with_reducible refine' go_gcons ?_
  | with_reducible refine' go_gnil ?_
  | with_reducible refine' go_kw ?_
  | with_reducible refine' go_par2 ?_
  | with_reducible refine' go_next ?_
  | with_reducible refine' go_drop ?_
  | with_reducible refine' go_and ?_
  | with_reducible refine' go_or ?_
  | with_reducible refine' go_not ?_
  | with_reducible refine' go_B ?_
  | with_reducible refine' go_andV ?_
  | with_reducible refine' go_orV ?_
  | with_reducible refine' go_notV ?_
  | with_reducible refine' go_chain ?_
  | with_reducible refine' go_un ?_
  | with_reducible refine' go_U ?_
  | with_reducible refine' go_bm ?_
  | with_reducible refine' go_tup ?_
  | with_reducible refine' go_lst ?_
  | with_reducible refine' go_forR1 ?_
  | with_reducible refine' go_forR2 ?_
  | with_reducible refine' go_forL ?_
  | with_reducible refine' go_forT ?_
  | with_reducible refine' go_forE ?_
  | with_reducible refine' go_lcR1 ?_
  | with_reducible refine' go_lcL ?_
  | with_reducible refine' go_lcT ?_
  | ((with_reducible refine' go_tyL ?hh ?_); (case hh => walk_at "heap"))
  | ((with_reducible refine' go_new ?hz ?_); (case hz => exact Nat.le_of_ble_eq_true rfl))
  | (with_reducible refine' ⟨_, rfl, ?_⟩)
  ))
--MACEND
/-! ### a def that may raise, called by its name -/
def HasX (P : Program) (w : World) (K : PySem.W.Frag) (mg : Str → Option Value) (base : Heap) (k : Nat) (x : Str) (sp : Sp) : Prop :=
  ∃ (f : Addr) (fd : FuncData) (ps : List Str), FnOk P w K mg base (L2N.CX P w) k f fd ps sp ∧ mg x = some (.ref f) ∧ PySem.W.keepIn K (.ref f) = true ∧ Binds K fd ps []
section
variable {X : Cx} {k n : Nat} {sp : Sp} {x : Str} {p pos : Pos} {e : Expr} {es : List Expr} {t : TA} {E : L2.St → XK}
theorem pe_hsS (h : HasX X.prog X.w X.K X.mg X.base k x sp) (hr : Room n X.A) (hg : Gl X x) (hx : ∀ σ, PassesAt (L2N.CX X.prog X.w) X σ (E σ)) (ha : PA X (e :: es) t) (hkn : k ≤ n := by decide) (hdb : (x == ("__debug__" : Str)) = false := by decide)
    (he : starEach (e :: es) X.env = (false, eval e X.env) :: starEach es X.env := by rfl) (hpl : (backTo pos (starEach es X.env)).any (·.1) = false := by rfl) :
    PE X (.Call (.Name x p) (e :: es) [] pos) (tCallS sp E t) := by
  obtain ⟨f, fd, ps, F, hm, hk, hb⟩ := h
  exact pe_callS F (hr.mono hkn) hg hm hk hb hx ha hdb he hpl
end
theorem go_callS {sp : Sp} {E : L2.St → XK} {t : TA} {σ : L2.St} {H : Hp} {Q : VK} (h : t σ H fun vs H1 => sp vs H1 Q (E σ)) : tCallS sp E t σ H Q := h
theorem go_raiseErr {fld : Str} {C : Addr} {W : WX} {ta : TA} {D : Ends} {σ : L2.St} {H : Hp} (h : ta σ H fun vs H1 => ∃ v, vs = [v] ∧ ∀ d, H1 d = none → W (.ref C) (some d) σ (upd H1 d (.xd [(fld, v)]))) : tRaiseErr fld C W ta D σ H := h
/-! ### what is wrong with a receiver -/
def isDialD : PyData → Bool
  | .tuple (.str k :: _) => decide (k = "dial")
  | _ => false
def fltS : List PyData → Nat → Bool → Option Nat
  | [], _, _ => none
  | s :: ss, i, has => if isStage s then (if isDialD s then (if has then some i else fltS ss (i + 1) true) else fltS ss (i + 1) has) else some i
def fault : PyData → Option (Option Nat)
  | .tuple [.list ss, r] => if isFrame (.tuple [.list ss, r]) then (match fltS ss 0 false with | some i => some (some i) | none => if isRate r then none else some (some ss.length)) else some none
  | _ => some none
def fltV : Option Nat → V
  | none => .non
  | some i => .int i
def spRecvE (C : Addr) : Sp := fun vs H Q E => ∃ x d, vs = [x] ∧ Dq H x d ∧ (fault d = none → ∀ H', Ex H H' → Q .non H') ∧ (∀ f, fault d = some f → ∀ H' dd, Ex H H' → H dd = none → H' dd = some (.xd [("index", fltV f)]) → E (.ref C) (some dd) H')
theorem frame_no {d : PyData} (h : isFrame d = false) : fault d = some none := by
  unfold fault
  split
  · rw [h]; rfl
  · rfl
theorem frame_yes {d : PyData} (h : isFrame d = true) : ∃ ss r, d = .tuple [.list ss, r] ∧ fault d = (match fltS ss 0 false with | some i => some (some i) | none => if isRate r then none else some (some ss.length)) := by
  unfold isFrame at h
  split at h
  · rename_i ss r
    refine ⟨ss, r, rfl, ?_⟩
    show (if isFrame (.tuple [.list ss, r]) = true then _ else _) = _
    rw [if_pos (show isFrame (.tuple [.list ss, r]) = true from h)]
  · cases h
/-- what has been seen behind i stages, all right -/
def seen : List PyData → Nat → Bool → Option Bool
  | _, 0, has => some has
  | [], _ + 1, has => some has
  | s :: ss, n + 1, has => if isStage s then (if isDialD s then (if has then none else seen ss n true) else seen ss n has) else none
theorem flt_seen : ∀ (ss : List PyData) (n j : Nat) (has h2 : Bool), seen ss n has = some h2 → n ≤ ss.length → fltS ss j has = fltS (ss.drop n) (j + n) h2
  | ss, 0, j, has, h2, h, _ => by
    cases ss <;> (simp [seen] at h; subst h; rfl)
  | [], n + 1, _, _, _, _, hn => by simp at hn
  | s :: ss, n + 1, j, has, h2, h, hn => by
    have hn' : n ≤ ss.length := by simpa using hn
    have e : j + (n + 1) = j + 1 + n := by omega
    rw [List.drop_succ_cons, e]
    unfold seen at h
    show (if isStage s = true then (if isDialD s = true then (if has = true then some j else fltS ss (j + 1) true) else fltS ss (j + 1) has) else some j) = _
    split at h
    · rename_i q
      rw [if_pos q]
      split at h
      · rename_i q2
        rw [if_pos q2]
        split at h
        · cases h
        · rename_i q3
          rw [if_neg q3]
          exact flt_seen ss n (j + 1) true h2 h hn'
      · rename_i q2
        rw [if_neg q2]
        exact flt_seen ss n (j + 1) has h2 h hn'
    · cases h
theorem seen_more : ∀ (ss : List PyData) (n : Nat) (has h2 : Bool) (s : PyData), seen ss n has = some h2 → ss[n]? = some s → isStage s = true → (isDialD s = true → h2 = false) → seen ss (n + 1) has = some (h2 || isDialD s)
  | [], n, _, _, _, _, h, _, _ => by simp at h
  | t :: ss, 0, has, h2, s, h, hs, h1, h3 => by
    cases h
    obtain rfl : t = s := by simpa using hs
    unfold seen
    rw [if_pos h1]
    cases q : isDialD t with
    | true =>
      rw [h3 q]
      simp [seen]
    | false => simp [seen]
  | t :: ss, n + 1, has, h2, s, h, hs, h1, h3 => by
    unfold seen at h ⊢
    have hs' : ss[n]? = some s := by simpa using hs
    split at h
    · rename_i q
      rw [if_pos q]
      split at h
      · rename_i q2
        rw [if_pos q2]
        split at h
        · cases h
        · rename_i q3
          rw [if_neg q3]
          exact seen_more ss n true h2 s h hs' h1 h3
      · rename_i q2
        rw [if_neg q2]
        exact seen_more ss n has h2 s h hs' h1 h3
    · cases h
theorem stage_nm {H : Hp} {x : V} {d : PyData} (h : Dq H x d) (hs : isStage d = true) : ∃ a xs k, x = .ref a ∧ Rd H a (.tup xs) ∧ atI xs 0 = some (.str k) ∧ isDialD d = decide (V.str k = V.str "dial") := by
  unfold isStage at hs
  split at hs
  · rename_i k d2 ds
    obtain ⟨a, xs, rfl, ha, hda⟩ := h.tupleAt
    cases hda with
    | cons q1 q2 =>
      cases q1
      exact ⟨a, _, k, rfl, ha, atI_nat (j := 0) rfl, by simp [isDialD]⟩
  · cases hs
section
variable {P : Program} {w : World} {K : PySem.W.Frag} {mg : Str → Option Value} {base : Heap} {C fI : Addr}
abbrev s_check_receiver : Stmt := top 23
theorem sc_check_receiver : FnScope ["receiver", "stages", "rate", "has_dial", "index", "stage"] ["receiver"] (defScope s_check_receiver) := ⟨rfl, rfl, rfl, by decide +kernel, rfl, by decide +kernel, by decide +kernel⟩
theorem ok_check_receiver {f : Addr} {fd : FuncData} (F : Fun K "check_receiver" "check_receiver" s_check_receiver f fd) (T_InvalidReceiver : SupX.ErrTxt P K mg "InvalidReceiver" "index" C fI) (m_enumerate : mg "enumerate" = none) (m_len : mg "len" = none) (h__is_frame : Has P w K mg base 1 "_is_frame" (spLook isFrame))
    (h_is_stage : Has P w K mg base 4 "is_stage" (spLook isStage)) (h_is_rate : Has P w K mg base 2 "is_rate" (spLook isRate)) : FnOk P w K mg base (L2N.CX P w) 5 f fd ["receiver"] (spRecvE C) := by
  refine okXN F sc_check_receiver (fun vs H Q E h => ?_) (fun cdv A outer s H vs Q E hr h => ?_)
  · obtain ⟨x, d, rfl, _⟩ := h
    rfl
  · obtain ⟨x, d, rfl, hd, k1, k2⟩ := h
    refine ⟨_, (pss_cons (ps_if (pt_not (pt_val (pe_hs h__is_frame hr rfl (pa_cons (pv 0) pa_nil))))
  (pss_one (ps_raiseErrN rfl T_InvalidReceiver hr (L2N.takes_of rfl rfl rfl rfl) (pa_cons pe_non pa_nil)))
  pss_nil)
  (pss_cons (ps_asg (pv 0) (pg_tup (by rfl) (pgs_cons (pg_name (i := 1) sc_check_receiver.nd rfl (Or.inl rfl)) (pgs_cons (pg_name (i := 2) sc_check_receiver.nd rfl (Or.inl rfl)) pgs_nil))))
  (pss_cons (ps_set (i := 3) sc_check_receiver.nd rfl (Or.inl rfl) pe_bl)
  (pss_cons (ps_for (passes_of rfl) rfl (pi_enum (by rfl) m_enumerate (pa_cons (pv 1) pa_nil)) (pg_tup (by rfl) (pgs_cons (pg_name (i := 4) sc_check_receiver.nd rfl (Or.inl rfl)) (pgs_cons (pg_name (i := 5) sc_check_receiver.nd rfl (Or.inl rfl)) pgs_nil)))
  (pss_cons (ps_if (pt_not (pt_val (pe_hs h_is_stage hr rfl (pa_cons (pv 5) pa_nil))))
  (pss_one (ps_raiseErrN rfl T_InvalidReceiver hr (L2N.takes_of rfl rfl rfl rfl) (pa_cons (pv 4) pa_nil)))
  pss_nil)
  (pss_one (ps_if (pt_cmpR op_eq (pe_ix ix_tup (pv 5) pe_int (fun _ _ => rfl)) pe_str (nomark _))
  (pss_cons (ps_if (pt_val (pv 3))
  (pss_one (ps_raiseErrN rfl T_InvalidReceiver hr (L2N.takes_of rfl rfl rfl rfl) (pa_cons (pv 4) pa_nil)))
  pss_nil)
  (pss_one (ps_set (i := 3) sc_check_receiver.nd rfl (Or.inl rfl) pe_bl)))
  pss_nil))))
  (pss_one (ps_if (pt_not (pt_val (pe_hs h_is_rate hr rfl (pa_cons (pv 2) pa_nil))))
  (pss_one (ps_raiseErrN rfl T_InvalidReceiver hr (L2N.takes_of rfl rfl rfl rfl) (pa_cons (pe_callB call_lenQ rfl m_len PySem.boot_len (pa_cons (pv 1) pa_nil)) pa_nil)))
  pss_nil)))))), ?_⟩
    walk_at "rd"
    refine look_go hd fun H1 e1 => ?_
    walk_at "rd"
    cases hf : isFrame d with
    | false =>
      refine iteT ?_
      refine ⟨_, rfl, fun dd nd => ?_⟩
      have fr : H dd = none := by
        cases z : H dd with
        | none => rfl
        | some o => rw [e1 _ _ z] at nd; cases nd
      exact k2 none (frame_no hf) _ dd (e1.trans (Ex.new nd)) fr upd_same
    | true =>
      refine iteF ?_
      walk_at "rd"
      obtain ⟨ss, r, rfl, hfl⟩ := frame_yes hf
      obtain ⟨a, xs, rfl, ha, hda⟩ := (hd.ex e1).tupleAt
      obtain ⟨v1, v2, d1, d2, rfl, ed, hv1, hv2⟩ := dqa2 hda rfl
      obtain ⟨rfl, rfl⟩ : PyData.list ss = d1 ∧ r = d2 := by simpa using ed
      obtain ⟨l, ys, rfl, hl, hys⟩ := hv1.listAt
      refine go_gtup (.inl ha) rfl ?_
      walk_at "rd"
      have len8 : ss.length ≤ 8 := by
        simp [isFrame] at hf
        exact hf.2
      have fresh : ∀ {G : Hp} {dd : Addr}, Ex H G → G dd = none → H dd = none := fun {G dd} e n => by
        cases z : H dd with
        | none => rfl
        | some o => rw [e _ _ z] at n; cases n
      refine ⟨l, ys, rfl, .inl hl, ?_⟩
      refine run_forE ys (fun i σ G => ∃ (v4 v5 : Option V) (has : Bool), σ = [some (.ref a), some (.ref l), some v2, some (.bl has), v4, v5] ∧ Ex H1 G ∧ seen ss i false = some has) ?_ ?_ ?_ ?_
      · exact ⟨_, _, false, rfl, Ex.refl _, by cases ss <;> rfl⟩
      · rintro i σ G _ ⟨v4, v5, has, rfl, e, _⟩
        exact .inl (Evl.ex_rd e hl)
      · rintro i y σ G Tp hi ⟨v4, v5, has, rfl, e, hseen⟩ hT
        obtain ⟨sd, hs, hds⟩ := hys.get hi
        have hlt : i < ss.length := (List.getElem?_eq_some_iff.mp hs).1
        have hdrop : ss.drop i = sd :: ss.drop (i + 1) := by
          rw [List.drop_eq_getElem_cons hlt, (List.getElem?_eq_some_iff.mp hs).2]
        have hfs := flt_seen ss i 0 false has hseen (Nat.le_of_lt hlt)
        rw [hdrop, Nat.zero_add] at hfs
        have e2 := e.trans (Ex.new (o := HO.tup [.int (i : Nat), y]) hT)
        refine go_gtup (.inl (.inl upd_same)) rfl ?_
        walk_at "rd"
        refine look_go (hds.ex e2) fun H2 e3 => ?_
        walk_at "rd"
        have e4 := (e1.trans e2).trans e3
        cases hst : isStage sd with
        | false =>
          refine iteT ?_
          refine ⟨_, rfl, _, rfl, fun dd nd => ?_⟩
          refine k2 (some i) ?_ _ dd (e4.trans (Ex.new nd)) (fresh e4 nd) upd_same
          rw [hfl, hfs]
          simp [fltS, hst]
        | true =>
          refine iteF ?_
          obtain ⟨b2, zs, kn, rfl, hb, hz, hdl⟩ := stage_nm (hds.ex (e2.trans e3)) hst
          walk_at "rd"
          rw [← hdl]
          cases hdd : isDialD sd with
          | true =>
            refine iteT ?_
            walk_at "rd"
            cases has with
            | true =>
              refine iteT ?_
              refine ⟨_, rfl, _, rfl, fun dd nd => ?_⟩
              refine k2 (some i) ?_ _ dd (e4.trans (Ex.new nd)) (fresh e4 nd) upd_same
              rw [hfl, hfs]
              simp [fltS, hst, hdd]
            | false =>
              refine iteF ?_
              walk_at "rd"
              refine ⟨_, _, true, rfl, e2.trans e3, ?_⟩
              have := seen_more ss i false false sd hseen hs hst fun _ => rfl
              rw [hdd] at this
              exact this
          | false =>
            refine iteF ?_
            walk_at "rd"
            refine ⟨_, _, has, rfl, e2.trans e3, ?_⟩
            have := seen_more ss i false has sd hseen hs hst fun z => by rw [hdd] at z; cases z
            rw [hdd] at this
            simpa using this
      · rintro σ G ⟨v4, v5, has, rfl, e, hseen⟩
        have hlen : ys.length = ss.length := hys.len
        rw [hlen] at hseen
        have hfs := flt_seen ss ss.length 0 false has hseen (Nat.le_refl _)
        rw [List.drop_length] at hfs
        have hno : fltS ss 0 false = none := by rw [hfs]; rfl
        rw [hno] at hfl
        walk_at "rd"
        refine look_go (hv2.ex e) fun H2 e2 => ?_
        walk_at "rd"
        have e4 := (e1.trans e).trans e2
        cases hrt : isRate r with
        | true =>
          refine iteF ?_
          walk_at "rd"
          exact k1 (by rw [hfl, hrt]; rfl) _ e4
        | false =>
          refine iteT ?_
          have hl2 := Evl.ex_rd (e.trans e2) hl
          refine go_raiseErr ?_
          walk_at "rd"
          intro dd nd
          refine k2 (some ss.length) ?_ _ dd (e4.trans (Ex.new nd)) (fresh e4 nd) ?_
          · rw [hfl, hrt]; rfl
          · rw [← hlen]; exact upd_same
end
end Kx

set_option Elab.async false
set_option linter.all false
set_option maxRecDepth 100000
set_option maxHeartbeats 2000000

namespace Kx
open PySem PySem.Spec PyProof.Rows L2 HX
open Evl (Ex)
local macro_rules | `(tactic| walk_at "side") => `(tactic| first | assumption | ((try dsimp only); first | assumption | decide +kernel | omega | exact ⟨by decide, by decide⟩ | (left; decide) | (left; omega) | (refine Or.inl ⟨?_, ?_⟩ <;> omega) | (refine Or.inr ⟨?_, ?_⟩ <;> omega)))
local macro_rules | `(tactic| walk_at "heap") => `(tactic| first | assumption | exact upd_same | exact Or.inl (by assumption) | exact Or.inl upd_same)
local macro_rules | `(tactic| walk_at "item") => `(tactic| first | exact rfl | exact atI_nat (j := 0) rfl | exact atI_nat (j := 1) rfl | exact atI_nat (j := 2) rfl | assumption)
local macro_rules | `(tactic| walk_at "rd") => `(tactic| repeat (first
  | ((with_reducible refine' go_var ?hv ?_); (case hv => exact rfl))
  | with_reducible refine' go_c ?_
  | with_reducible refine' go_op ?_
  | with_reducible refine' go_seq ?_
  | with_reducible refine' go_asg ?_
  | with_reducible refine' go_name ?_
  | with_reducible refine' go_cons ?_
  | with_reducible refine' go_nil ?_
  | with_reducible refine' go_cb ?_
  | with_reducible refine' go_call ?_
  | with_reducible refine' go_ifS ?_
  | with_reducible refine' go_test ?_
  | with_reducible refine' go_bl ?_
  | with_reducible refine' go_ret ?_
  | with_reducible refine' go_I0 ?_
  | ((with_reducible refine' go_I ?cc ?_); (case cc => walk_at "side"))
  | ((with_reducible refine' go_ixL ?hh ?hk ?_); (case hh => walk_at "heap"); (case hk => walk_at "item"))
  | ((with_reducible refine' go_ixT ?hh ?hk ?_); (case hh => walk_at "heap"); (case hk => walk_at "item"))
  | ((with_reducible refine' go_lenL ?hh ?_); (case hh => walk_at "heap"))
  | ((with_reducible refine' go_lenT ?hh ?_); (case hh => walk_at "heap"))
  | ((with_reducible refine' go_setL ?hh ?hk ?_); (case hh => walk_at "heap"); (case hk => walk_at "item"))
  | with_reducible refine' go_abs ?_
  | with_reducible refine' go_max ?_
  | with_reducible refine' go_min ?_
  | with_reducible refine' go_int ?_
  | with_reducible refine' go_intB ?_
  | (with_reducible refine' go_eq rfl ?_)
  | (with_reducible refine' go_ne rfl ?_)
  | with_reducible refine' go_isN ?_
  | with_reducible refine' go_notN ?_
  | with_reducible refine' go_if ?_
  | with_reducible refine' go_sub ?_
  | with_reducible refine' go_par ?_
  | with_reducible refine' go_sl ?_
  | with_reducible refine' go_part ?_
  | with_reducible refine' go_pint ?_
  | with_reducible refine' go_nopart ?_
  | ((with_reducible refine' go_lenL ?hh ?_); (case hh => walk_at "heap"))
  | ((with_reducible refine' go_lenT ?hh ?_); (case hh => walk_at "heap"))
  | ((with_reducible refine' go_lenS ?hh ?_); (case hh => assumption))
  | with_reducible refine' go_gcons ?_
  | with_reducible refine' go_gnil ?_
  | with_reducible refine' go_kw ?_
  | with_reducible refine' go_par2 ?_
  | with_reducible refine' go_next ?_
  | with_reducible refine' go_drop ?_
  | with_reducible refine' go_and ?_
  | with_reducible refine' go_or ?_
  | with_reducible refine' go_not ?_
  | with_reducible refine' go_B ?_
  | with_reducible refine' go_andV ?_
  | with_reducible refine' go_orV ?_
  | with_reducible refine' go_notV ?_
  | with_reducible refine' go_chain ?_
  | with_reducible refine' go_un ?_
  | with_reducible refine' go_U ?_
  | with_reducible refine' go_bm ?_
  | with_reducible refine' go_tup ?_
  | with_reducible refine' go_lst ?_
  | with_reducible refine' go_forR1 ?_
  | with_reducible refine' go_forR2 ?_
  | with_reducible refine' go_forL ?_
  | with_reducible refine' go_forT ?_
  | with_reducible refine' go_forE ?_
  | with_reducible refine' go_lcR1 ?_
  | with_reducible refine' go_lcL ?_
  | with_reducible refine' go_lcT ?_
  | ((with_reducible refine' go_tyL ?hh ?_); (case hh => walk_at "heap"))
  | ((with_reducible refine' go_new ?hz ?_); (case hz => exact Nat.le_of_ble_eq_true rfl))
  | (with_reducible refine' ⟨_, rfl, ?_⟩)
  ))
--MACEND
def geInt (l : Int) : PyData → Bool
  | .int i => decide (l ≤ i)
  | _ => false
def spGe : Sp := fun vs H Q _ => ∃ x d l, vs = [x, .int l] ∧ Dq H x d ∧ ∀ H', Ex H H' → Q (.bl (geInt l d)) H'
theorem ge_go {x : V} {d : PyData} {l : Int} {H : Hp} {Q : VK} {E : XK} (h : Dq H x d) (k : ∀ H', Ex H H' → Q (.bl (geInt l d)) H') : spGe ([x, .int l] ++ []) H Q E := ⟨x, d, l, rfl, h, k⟩
theorem ge_int {d : PyData} {l : Int} (h : geInt l d = true) : ∃ i : Int, d = .int i ∧ l ≤ i := by
  cases d <;> simp [geInt] at h
  exact ⟨_, rfl, h⟩
theorem ge_nat (d : PyData) : geInt 0 d = isNat d := by cases d <;> rfl
theorem ge_rate {d : PyData} (h : d ≠ .none) : geInt 2 d = isRate d := by cases d <;> first | rfl | exact absurd rfl h
section
variable {P : Program} {w : World} {K : PySem.W.Frag} {mg : Str → Option Value} {base : Heap}
theorem strs_ne : ¬ ((("pass" : String) : Str) = "mix") ∧ ¬ ((("pass" : String) : Str) = "dial") ∧ ¬ ((("dial" : String) : Str) = "mix") := by decide +kernel
theorem band3 {d e : PyData} : isBand (.tuple [d, e]) = (isNat d && (match d with | .int a => geInt a e | _ => false)) := by
  cases d with
  | int a =>
    cases e with
    | int b =>
      show (decide (0 ≤ a) && decide (0 ≤ b) && decide (a ≤ b)) = (decide (0 ≤ a) && decide (a ≤ b))
      by_cases h1 : 0 ≤ a
      · by_cases h2 : a ≤ b
        · have h3 : 0 ≤ b := Int.le_trans h1 h2
          simp [h1, h2, h3]
        · simp [h1, h2]
      · simp [h1]
    | _ => simp [isBand, isNat, geInt]
  | _ => cases e <;> rfl
theorem band_len {d : PyData} {ds : List PyData} (h : ds.length ≠ 1) : isBand (.tuple (d :: ds)) = false := by
  match ds, h with
  | [], _ => cases d <;> rfl
  | [_], h => exact absurd rfl h
  | e :: _ :: _, _ => cases d <;> first | rfl | (cases e <;> rfl)
/-- as the law tells it -/
def lawV : Option (Option Nat) → V
  | none => .int (-1)
  | some none => .non
  | some (some i) => .int i
def spFault : Sp := fun vs H Q _ => ∃ x d, vs = [x] ∧ Dq H x d ∧ ∀ H', Ex H H' → Q (lawV (fault d)) H'
end
end Kx

set_option Elab.async false
set_option linter.all false
set_option maxRecDepth 100000
namespace HX
open PySem PySem.Spec PyProof.Rows L2
open Evl (Ex)
/-! ### data of moderate size -/
structure Fine (w k : Nat) (d : PyData) : Prop where
  sh : d.showable = true
  lv : d.leavesShort 200 = true
  wt : d.weight ≤ w
  dp : d.depth ≤ k
theorem Fine.mono {w w' k k' : Nat} {d : PyData} (h : Fine w k d) (hw : w ≤ w') (hk : k ≤ k') : Fine w' k' d := ⟨h.sh, h.lv, Nat.le_trans h.wt hw, Nat.le_trans h.dp hk⟩
theorem Fine.none : Fine 0 0 .none := ⟨rfl, rfl, Nat.le_refl _, Nat.le_refl _⟩
theorem Fine.bool (b : Bool) : Fine 0 0 (.bool b) := ⟨rfl, rfl, Nat.le_refl _, Nat.le_refl _⟩
theorem Fine.int {i : Int} (h : i.natAbs < 2 ^ 600) : Fine 600 0 (.int i) := by
  have hl : i.natAbs.log2 < 600 := PySem.Flt.log2_lt_of (by decide) h
  have ht : (toString i).length ≤ 200 := Nat.le_trans (int_text_length_le10 (k := 182) (by decide) (Nat.lt_of_lt_of_le h (by decide +kernel))) (by decide)
  refine ⟨by simp [PyData.showable]; omega, ?_, ?_, Nat.le_refl _⟩
  · simp only [PyData.leavesShort, PyData.shown]
    refine decide_eq_true ?_
    show (Str.ofString (toString i)).length ≤ 200
    rw [PySem.ofString_length]
    exact ht
  · simp only [PyData.weight]
    split <;> omega
theorem Fine.str {x : Str} {n : Nat} (h : (PyData.str x).leavesShort 200 = true) (hn : x.cps.size ≤ n) : Fine n 0 (.str x) := ⟨rfl, h, hn, Nat.le_refl _⟩
theorem fine_all {w k : Nat} : ∀ {l : List PyData}, (∀ x ∈ l, Fine w k x) → PyData.showableAll l = true ∧ PyData.leavesShortAll 200 l = true ∧ PyData.weightAll l ≤ l.length * (w + 1) ∧ PyData.depthAll l ≤ k
  | [], _ => ⟨rfl, rfl, by simp [PyData.weightAll], by simp [PyData.depthAll]⟩
  | x :: l, h => by
    obtain ⟨h1, h2, h3, h4⟩ := fine_all fun y hy => h y (List.mem_cons_of_mem _ hy)
    have hx := h x List.mem_cons_self
    refine ⟨by simp [PyData.showableAll, hx.sh, h1], by simp [PyData.leavesShortAll, hx.lv, h2], ?_, ?_⟩
    · simp only [PyData.weightAll, List.length_cons]
      have := hx.wt
      rw [Nat.add_mul]
      omega
    · simp only [PyData.depthAll]
      have := hx.dp
      omega
theorem Fine.list {w k : Nat} {l : List PyData} (h : ∀ x ∈ l, Fine w k x) : Fine (l.length * (w + 1)) (k + 1) (.list l) := by
  obtain ⟨h1, h2, h3, h4⟩ := fine_all h
  exact ⟨by simpa [PyData.showable] using h1, by simpa [PyData.leavesShort] using h2, by simpa [PyData.weight] using h3, by simpa [PyData.depth] using h4⟩
theorem Fine.tuple {w k : Nat} {l : List PyData} (h : ∀ x ∈ l, Fine w k x) : Fine (l.length * (w + 1)) (k + 1) (.tuple l) := by
  obtain ⟨h1, h2, h3, h4⟩ := fine_all h
  exact ⟨by simpa [PyData.showable] using h1, by simpa [PyData.leavesShort] using h2, by simpa [PyData.weight] using h3, by simpa [PyData.depth] using h4⟩
theorem Fine.dict : Fine 0 1 (.dict []) := ⟨rfl, rfl, by simp [PyData.weight, PyData.weightKv], by simp [PyData.depth, PyData.depthKv]⟩
theorem Fine.shw {w k : Nat} {d : PyData} (h : Fine w k d) (hw : w ≤ 80000) (hk : k ≤ 60) : Shw d := by
  refine ⟨h.sh, ?_, Nat.le_trans h.dp hk⟩
  have := PyData.shown_le 200 (by decide) d h.lv
  have e : sizeLine = 16777216 := sizeLine_eq
  have hw' := Nat.le_trans h.wt hw
  omega
theorem two {l : List PyData} {a b : PyData} {R : PyData → Prop} (ha : R a) (hb : R b) : ∀ x ∈ [a, b], R x := by
  intro x hx
  rcases List.mem_cons.mp hx with rfl | hx
  · exact ha
  · rw [List.mem_singleton.mp hx]; exact hb
theorem go_repr {H : Hp} {Q : VK} {x : V} {d : PyData} {w k : Nat} (h : Dq H x d) (hf : Fine w k d) (hw : w ≤ 80000) (hk : k ≤ 60) (q : Q (.str d.shown) H) : rRepr [x] H Q := ⟨x, d, rfl, h, hf.shw hw hk, q⟩
end HX
namespace HX
open PySem PySem.Spec PyProof.Rows L2
def rListQ (K : PySem.W.Frag) : List V → Hp → VK → Prop := fun xs H Q => ∃ p ys, xs = [.ref p] ∧ (SqL K H p ys ∨ SqT K H p ys) ∧ ∀ l, H l = none → Q (.ref l) (upd H l (.lst ys))
theorem call_listQ {X : Cx} : CallR X (.type "list") (rListQ X.K) := call_list_of
theorem go_listL {K : PySem.W.Frag} {H : Hp} {Q : VK} {p : Addr} {ys : List V} (h : Rd H p (.lst ys)) (k : ∀ l, H l = none → Q (.ref l) (upd H l (.lst ys))) : rListQ K [.ref p] H Q := ⟨p, ys, rfl, .inl (.inl h), k⟩
end HX

set_option Elab.async false
set_option linter.all false
set_option maxRecDepth 100000
set_option maxHeartbeats 1000000
/-! data written out: what an expression of literals (and of names that hold data) makes; C: what is known of the slots, it stays when the heap grows -/
namespace HX
open PySem PySem.Spec PyProof.Rows L2
open Evl (Ex)
def Cl (C : L2.St → Hp → Prop) : Prop := ∀ σ H H', Ex H H' → C σ H → C σ H'
def C0 : L2.St → Hp → Prop := fun _ _ => True
theorem cl0 : Cl C0 := fun _ _ _ _ _ => trivial
def tDat (C : L2.St → Hp → Prop) (d : PyData) : TE := fun σ H Q => C σ H ∧ ∀ H' v, Ex H H' → Dq H' v d → Q v H'
def tDats (C : L2.St → Hp → Prop) (ds : List PyData) : TA := fun σ H Q => C σ H ∧ ∀ H' vs, Ex H H' → DqAll H' vs ds → Q vs H'
/-- a new list -/
def tDatL (C : L2.St → Hp → Prop) (ds : List PyData) : TE := fun σ H Q => C σ H ∧ ∀ H' l xs, Ex H H' → H' l = some (.lst xs) → DqAll H' xs ds → Q (.ref l) H'
section
variable {X : Cx} {C : L2.St → Hp → Prop} {e e2 : Expr} {es : List Expr} {te : TE} {ta : TA} {d : PyData} {ds ds2 : List PyData} {pos p : Pos} {i j : Int} {k n : Nat}
theorem pe_mono {te' : TE} (h : PE X e te) (m : ∀ σ H Q, te' σ H Q → te σ H Q) : PE X e te' := ⟨fun pins s σ H Q I q => h.run pins s σ H Q I (m σ H Q q)⟩
theorem pa_mono {ta' : TA} (h : PA X es ta) (m : ∀ σ H Q, ta' σ H Q → ta σ H Q) : PA X es ta' := ⟨fun pos pins s σ H Q I q => h.run pos pins s σ H Q I (m σ H Q q)⟩
theorem dat_int : PE X (.Constant (.int i) n pos) (tDat C (.int i)) := pe_mono pe_int fun σ H Q h => h.2 H _ (Ex.refl _) (.int i)
theorem dat_non : PE X (.Constant .none n pos) (tDat C .none) := pe_mono pe_non fun σ H Q h => h.2 H _ (Ex.refl _) .non
theorem dat_bl {b : Bool} : PE X (.Constant (.bool b) n pos) (tDat C (.bool b)) := pe_mono pe_bl fun σ H Q h => h.2 H _ (Ex.refl _) (.bl b)
theorem dat_str {x : Str} : PE X (.Constant (.str x) n pos) (tDat C (.str x)) := pe_mono pe_str fun σ H Q h => h.2 H _ (Ex.refl _) (.str x)
theorem dat_neg {m : Nat} {pos2 : Pos} : PE X (.UnaryOp .USub (.Constant (.int i) m pos2) pos) (tDat C (.int (-i))) := pe_mono (pe_un un_neg pe_int) fun σ H Q h => ⟨i, rfl, h.2 H _ (Ex.refl _) (.int (-i))⟩
theorem dat_pow {m n : Nat} {pos1 pos2 : Pos} (hc : CPowW i j) : PE X (.BinOp (.Constant (.int i) m pos1) .Pow (.Constant (.int j) n pos2) pos) (tDat C (.int (i ^ j.toNat))) :=
  pe_mono (pe_op op_powW pe_int pe_int) fun σ H Q h => ⟨i, j, rfl, rfl, hc, h.2 H _ (Ex.refl _) (.int _)⟩
theorem dat_sub0 {m n : Nat} {pos1 pos2 pos3 pos4 : Pos} {z : Int} {q : Nat} (hc : CPowW i j) : PE X (.BinOp (.Constant (.int z) q pos3) .Sub (.BinOp (.Constant (.int i) m pos1) .Pow (.Constant (.int j) n pos2) pos) pos4) (tDat C (.int (z - i ^ j.toNat))) :=
  pe_mono (pe_op op_sub pe_int (pe_op op_powW pe_int pe_int)) fun σ H Q h => ⟨i, j, rfl, rfl, hc, z, _, rfl, rfl, h.2 H _ (Ex.refl _) (.int _)⟩
theorem dat_dic : PE X (.Dict [] [] pos) (tDat C (.dict [])) := pe_mono pe_dnewK fun σ H Q h p hp => h.2 _ _ (Ex.new hp) (.dic upd_same)
theorem dat_nil : PA X [] (tDats C []) := pa_mono pa_nil fun σ H Q h => h.2 H [] (Ex.refl _) .nil
theorem dat_cons (hC : Cl C) (he : PE X e (tDat C d)) (hr : PA X es (tDats C ds)) (hs : starEach (e :: es) X.env = (false, eval e X.env) :: starEach es X.env := by rfl) : PA X (e :: es) (tDats C (d :: ds)) :=
  pa_mono (pa_cons he hr hs) fun σ H Q h => ⟨h.1, fun H1 v e1 q1 => ⟨hC σ _ _ e1 h.1, fun H2 vs e2 q2 => h.2 H2 _ (e1.trans e2) (.cons (q1.ex e2) q2)⟩⟩
theorem len_line (h : n ≤ 1000) : n ≤ sizeLine := Nat.le_trans h (by rw [sizeLine_eq]; decide)
theorem dat_tup {x1 : Nat} (h : PA X es (tDats C ds)) (hz : ds.length ≤ sizeLine) : PE X (.Tuple es x1 pos) (tDat C (.tuple ds)) :=
  pe_mono (pe_tup h) fun σ H Q q => ⟨q.1, fun H1 vs e1 q1 => ⟨by rw [q1.len]; exact hz, fun p hp => q.2 _ _ (e1.trans (Ex.new hp)) (.tup (.inl upd_same) (q1.ex (Ex.new hp)))⟩⟩
theorem lst_lit (h : PA X es (tDats C ds)) (hz : ds.length ≤ sizeLine) : PE X (.List es pos) (tDatL C ds) :=
  pe_mono (pe_lst h) fun σ H Q q => ⟨q.1, fun H1 vs e1 q1 => ⟨by rw [q1.len]; exact hz, fun p hp => q.2 _ _ _ (e1.trans (Ex.new hp)) upd_same (q1.ex (Ex.new hp))⟩⟩
theorem dat_lst (h : PE X e (tDatL C ds)) : PE X e (tDat C (.list ds)) := pe_mono h fun σ H Q q => ⟨q.1, fun H1 l xs e1 q1 q2 => q.2 _ _ e1 (.lst (.inl q1) q2)⟩
theorem lst_cat (hC : Cl C) (ha : PE X e (tDatL C ds)) (hb : PE X e2 (tDatL C ds2)) (hz : ds.length + ds2.length ≤ sizeLine) : PE X (.BinOp e .Add e2 pos) (tDatL C (ds ++ ds2)) :=
  pe_mono (pe_op op_cat ha hb) fun σ H Q q => ⟨q.1, fun H1 l xs e1 q1 q2 => ⟨hC σ _ _ e1 q.1, fun H2 m ys e2 q3 q4 => ⟨l, m, xs, ys, rfl, rfl, e2 _ _ q1, q3, by rw [q2.len, q4.len]; exact hz,
    fun p hp => q.2 _ _ _ ((e1.trans e2).trans (Ex.new hp)) upd_same (((q2.ex e2).app q4).ex (Ex.new hp))⟩⟩⟩
theorem dqa_rep {H : Hp} {xs : List V} (h : DqAll H xs ds) : ∀ k : Nat, DqAll H (List.replicate k xs).flatten (List.replicate k ds).flatten
  | 0 => .nil
  | k + 1 => by
    rw [List.replicate_succ, List.replicate_succ, List.flatten_cons, List.flatten_cons]
    exact h.app (dqa_rep h k)
theorem lst_rep {m : Nat} {pos2 : Pos} (hi : i = (k : Int)) (ha : PE X e (tDatL C ds)) (hk : k < 1000) (hz : ds.length * k ≤ sizeLine) : PE X (.BinOp e .Mult (.Constant (.int i) m pos2) pos) (tDatL C (List.replicate k ds).flatten) :=
  pe_mono (pe_op op_rep ha pe_int) fun σ H Q q => ⟨q.1, fun H1 l xs e1 q1 q2 => by
    subst hi
    refine ⟨l, k, xs, rfl, rfl, q1, by omega, by omega, by rw [q2.len]; simpa using hz, fun p hp => q.2 _ _ _ (e1.trans (Ex.new hp)) upd_same ?_⟩
    have e : (k : Int).toNat = k := Int.toNat_natCast k
    rw [e]
    exact (dqa_rep q2 k).ex (Ex.new hp)⟩
def cutD (ds : List PyData) (lo hi : Option Int) : List PyData := (ds.drop (HT.sIx ds.length 0 lo)).take (HT.sIx ds.length ds.length hi - HT.sIx ds.length 0 lo)
theorem dqa_cut {H : Hp} {xs : List V} (h : DqAll H xs ds) (lo hi : Option Int) : DqAll H (cutV xs lo hi) (cutD ds lo hi) := by
  unfold cutV cutD
  rw [h.len]
  exact (h.drop _).take _
theorem cutD_len (lo hi : Option Int) : (cutD ds lo hi).length ≤ ds.length := by
  unfold cutD
  rw [List.length_take, List.length_drop]
  omega
/-- a name that holds data -/
theorem dat_var {k : Nat} (h : PE X e (tVar k)) (hv : ∀ σ H, C σ H → ∃ v, σ[k]? = some (some v) ∧ Dq H v d) : PE X e (tDat C d) := pe_mono h fun σ H Q q => by
  obtain ⟨v, h1, h2⟩ := hv σ H q.1
  exact ⟨v, h1, q.2 H v (Ex.refl _) h2⟩
section
variable {lo hi : Option Expr} {tl th : TO} {p2 : Pos} {xl xh : Option Int}
theorem lst_slice {te : TE} {K : PySem.W.Frag} (hK : X.K = K) (he : PE X e te) (hl : PO X lo tl) (hu : PO X hi th) (hv : ∀ σ H (Q : VK), C σ H → (∀ a xs, Rd H a (.lst xs) → DqAll H xs ds → Q (.ref a) H) → te σ H Q)
    (h1 : ∀ σ H (Q : Option Int → Hp → Prop), Q xl H → tl σ H Q) (h2 : ∀ σ H (Q : Option Int → Hp → Prop), Q xh H → th σ H Q) : PE X (.Subscript e (.Slice lo hi none p2) pos) (tDatL C (cutD ds xl xh)) :=
  pe_mono (pe_slice sl_list he hl hu) fun σ H Q q => hv σ H _ q.1 fun a xs ha hd => h1 _ _ _ (h2 _ _ _ ⟨a, xs, rfl, .inl ha, fun p hp => q.2 _ _ _ (Ex.new hp) upd_same ((dqa_cut hd xl xh).ex (Ex.new hp))⟩)
end
/-- tuple(a name that holds a list) -/
theorem dat_tupOf {te : TE} (hg : Gl X "tuple") (hm : X.mg "tuple" = none) (he : PE X e te) (hv : ∀ σ H (Q : VK), C σ H → (∀ a xs, Rd H a (.lst xs) → DqAll H xs ds → Q (.ref a) H) → te σ H Q)
    (hs : starEach (e :: []) X.env = (false, eval e X.env) :: starEach [] X.env := by rfl) : PE X (.Call (.Name "tuple" p) [e] [] pos) (tDat C (.tuple ds)) :=
  pe_mono (pe_callTy call_tuple_of hg hm boot_tuple (pa_cons he pa_nil hs) (he := hs)) fun σ H Q q => hv σ H _ q.1 fun a xs ha hd => ⟨a, xs, rfl, .inl ⟨.inl ha, fun l hl => q.2 _ _ (Ex.new hl) (.tup (.inl upd_same) (hd.ex (Ex.new hl)))⟩⟩
end
theorem go_dat {C : L2.St → Hp → Prop} {d : PyData} {σ : L2.St} {H : Hp} {Q : VK} (c : C σ H) (k : ∀ H' v, Ex H H' → Dq H' v d → Q v H') : tDat C d σ H Q := ⟨c, k⟩
theorem go_datL {C : L2.St → Hp → Prop} {ds : List PyData} {σ : L2.St} {H : Hp} {Q : VK} (c : C σ H) (k : ∀ H' l xs, Ex H H' → H' l = some (.lst xs) → DqAll H' xs ds → Q (.ref l) H') : tDatL C ds σ H Q := ⟨c, k⟩
end HX

set_option Elab.async false
set_option linter.all false
set_option maxRecDepth 100000
set_option maxHeartbeats 4000000

namespace Kx
open PySem PySem.Spec PyProof.Rows L2 HX
open Evl (Ex)
local macro_rules | `(tactic| walk_at "side") => `(tactic| first | assumption | ((try dsimp only); first | assumption | decide +kernel | omega | exact ⟨by decide, by decide⟩ | (left; decide) | (left; omega) | (refine Or.inl ⟨?_, ?_⟩ <;> omega) | (refine Or.inr ⟨?_, ?_⟩ <;> omega)))
local macro_rules | `(tactic| walk_at "heap") => `(tactic| first | assumption | exact upd_same | exact Or.inl (by assumption) | exact Or.inl upd_same)
local macro_rules | `(tactic| walk_at "item") => `(tactic| first | exact rfl | exact atI_nat (j := 0) rfl | exact atI_nat (j := 1) rfl | exact atI_nat (j := 2) rfl | assumption)
local macro_rules | `(tactic| walk_at "rd") => `(tactic| repeat (first
  | ((with_reducible refine' go_var ?hv ?_); (case hv => exact rfl))
  | with_reducible refine' go_c ?_
  | with_reducible refine' go_op ?_
  | with_reducible refine' go_seq ?_
  | with_reducible refine' go_asg ?_
  | with_reducible refine' go_name ?_
  | with_reducible refine' go_cons ?_
  | with_reducible refine' go_nil ?_
  | with_reducible refine' go_cb ?_
  | with_reducible refine' go_call ?_
  | with_reducible refine' go_ifS ?_
  | with_reducible refine' go_test ?_
  | with_reducible refine' go_bl ?_
  | with_reducible refine' go_ret ?_
  | with_reducible refine' go_I0 ?_
  | ((with_reducible refine' go_I ?cc ?_); (case cc => walk_at "side"))
  | ((with_reducible refine' go_ixL ?hh ?hk ?_); (case hh => walk_at "heap"); (case hk => walk_at "item"))
  | ((with_reducible refine' go_ixT ?hh ?hk ?_); (case hh => walk_at "heap"); (case hk => walk_at "item"))
  | ((with_reducible refine' go_lenL ?hh ?_); (case hh => walk_at "heap"))
  | ((with_reducible refine' go_lenT ?hh ?_); (case hh => walk_at "heap"))
  | ((with_reducible refine' go_setL ?hh ?hk ?_); (case hh => walk_at "heap"); (case hk => walk_at "item"))
  | with_reducible refine' go_abs ?_
  | with_reducible refine' go_max ?_
  | with_reducible refine' go_min ?_
  | with_reducible refine' go_int ?_
  | with_reducible refine' go_intB ?_
  | (with_reducible refine' go_eq rfl ?_)
  | (with_reducible refine' go_ne rfl ?_)
  | with_reducible refine' go_isN ?_
  | with_reducible refine' go_notN ?_
  | with_reducible refine' go_if ?_
  | with_reducible refine' go_sub ?_
  | with_reducible refine' go_par ?_
  | with_reducible refine' go_sl ?_
  | with_reducible refine' go_part ?_
  | with_reducible refine' go_pint ?_
  | with_reducible refine' go_nopart ?_
  | ((with_reducible refine' go_lenL ?hh ?_); (case hh => walk_at "heap"))
  | ((with_reducible refine' go_lenT ?hh ?_); (case hh => walk_at "heap"))
  | ((with_reducible refine' go_lenS ?hh ?_); (case hh => assumption))
  | with_reducible refine' go_gcons ?_
  | with_reducible refine' go_gnil ?_
  | with_reducible refine' go_kw ?_
  | with_reducible refine' go_par2 ?_
  | with_reducible refine' go_next ?_
  | with_reducible refine' go_drop ?_
  | with_reducible refine' go_and ?_
  | with_reducible refine' go_or ?_
  | with_reducible refine' go_not ?_
  | with_reducible refine' go_B ?_
  | with_reducible refine' go_andV ?_
  | with_reducible refine' go_orV ?_
  | with_reducible refine' go_notV ?_
  | with_reducible refine' go_chain ?_
  | with_reducible refine' go_un ?_
  | with_reducible refine' go_U ?_
  | with_reducible refine' go_bm ?_
  | with_reducible refine' go_tup ?_
  | with_reducible refine' go_lst ?_
  | with_reducible refine' go_forR1 ?_
  | with_reducible refine' go_forR2 ?_
  | with_reducible refine' go_forL ?_
  | with_reducible refine' go_forT ?_
  | with_reducible refine' go_forE ?_
  | with_reducible refine' go_lcR1 ?_
  | with_reducible refine' go_lcL ?_
  | with_reducible refine' go_lcT ?_
  | ((with_reducible refine' go_tyL ?hh ?_); (case hh => walk_at "heap"))
  | ((with_reducible refine' go_new ?hz ?_); (case hz => exact Nat.le_of_ble_eq_true rfl))
  | (with_reducible refine' ⟨_, rfl, ?_⟩)
  ))
--MACEND
section
variable {X : Cx} {k n : Nat} {sp : Sp} {x : Str} {p pos : Pos}
theorem pe_hs0 (h : Has X.prog X.w X.K X.mg X.base k x sp) (hr : Room n X.A) (hg : Gl X x) (hkn : k ≤ n := by decide) (hdb : (x == ("__debug__" : Str)) = false := by decide) :
    PE X (.Call (.Name x p) [] [] pos) (tCall sp [] E0 tNil) := by
  obtain ⟨f, fd, ps, F, hm, hk, hb⟩ := h
  exact pe_call0 F (hr.mono hkn) hg hm hk hb .nil pass0 hdb
end
theorem fine_dec {w k : Nat} {l : List PyData} (h : (l.all fun d => d.showable && d.leavesShort 200 && decide (d.weight ≤ w) && decide (d.depth ≤ k)) = true) : ∀ d ∈ l, Fine w k d := by
  intro d hd
  have := List.all_eq_true.mp h d hd
  simp only [Bool.and_eq_true, decide_eq_true_eq] at this
  exact ⟨this.1.1.1, this.1.1.2, this.1.2, this.2⟩
def spOddS : Sp := fun vs H Q _ => vs = [] ∧ ∀ (p : Addr) (H' : Hp) (xs : List V) (ds : List PyData), Ex H H' → H' p = some (.lst xs) → DqAll H' xs ds → (∀ d ∈ ds, Fine 300 3 d) → ds.length ≤ 60 → Q (.ref p) H'
section
variable {P : Program} {w : World} {K : PySem.W.Frag} {mg : Str → Option Value} {base : Heap}
end
end Kx

set_option Elab.async false
set_option linter.all false
set_option maxRecDepth 100000
set_option maxHeartbeats 1000000
/-! data of which a property is known, away from the objects of S (lists that will grow) -/
namespace HX
open PySem PySem.Spec PyProof.Rows L2
open Evl (Ex)
theorem hid_nil (H : Hp) : hid [] H = H := by funext b; simp [hid]
def Th (S : List Addr) (H : Hp) : Prop := ∀ s ∈ S, H s ≠ none
theorem Th.ex {S : List Addr} {H H' : Hp} (t : Th S H) (e : Ex H H') : Th S H' := fun s hs z => by
  cases q : H s with
  | none => exact t s hs q
  | some o => rw [e _ _ q] at z; cases z
theorem Th.nin {S : List Addr} {H : Hp} {p : Addr} (t : Th S H) (h : H p = none) : p ∉ S := fun z => t p z h
theorem hex {S : List Addr} {H H' : Hp} (e : Ex H H') : Ex (hid S H) (hid S H') := Jx.of e
theorem hnew {S : List Addr} {H : Hp} {p : Addr} {o : HO} (t : Th S H) (h : H p = none) : hid S (upd H p o) p = some o := by rw [hid_ne (t.nin h)]; exact upd_same
def tEx (S : L2.St → List Addr) (C : L2.St → Hp → Prop) (R : PyData → Prop) : TE := fun σ H Q => C σ (hid (S σ) H) ∧ Th (S σ) H ∧ ∀ H' v d, Ex H H' → Dq (hid (S σ) H') v d → R d → Q v H'
def tExs (S : L2.St → List Addr) (C : L2.St → Hp → Prop) (R : PyData → Prop) (n : Nat) : TA := fun σ H Q => C σ (hid (S σ) H) ∧ Th (S σ) H ∧ ∀ H' vs ds, Ex H H' → DqAll (hid (S σ) H') vs ds → ds.length = n → (∀ d ∈ ds, R d) → Q vs H'
def tExL (S : L2.St → List Addr) (C : L2.St → Hp → Prop) (R : PyData → Prop) (n : Nat) : TE := fun σ H Q => C σ (hid (S σ) H) ∧ Th (S σ) H ∧ ∀ H' l xs ds, Ex H H' → H' l = some (.lst xs) → l ∉ S σ → DqAll (hid (S σ) H') xs ds → ds.length ≤ n → (∀ d ∈ ds, R d) → Q (.ref l) H'
section
variable {X : Cx} {S : L2.St → List Addr} {C : L2.St → Hp → Prop} {R R' : PyData → Prop} {e e2 : Expr} {es : List Expr} {te : TE} {ta : TA} {d : PyData} {pos p : Pos} {k n m w : Nat} {i : Int}
theorem ex_int (hR : R (.int i)) : PE X (.Constant (.int i) n pos) (tEx S C R) := pe_mono pe_int fun σ H Q q => q.2.2 H _ _ (Ex.refl _) (.int i) hR
theorem ex_non (hR : R .none) : PE X (.Constant .none n pos) (tEx S C R) := pe_mono pe_non fun σ H Q q => q.2.2 H _ _ (Ex.refl _) .non hR
theorem ex_var {k : Nat} (h : PE X e (tVar k)) (hv : ∀ σ H, C σ H → ∃ v d, σ[k]? = some (some v) ∧ Dq H v d ∧ R d) : PE X e (tEx S C R) := pe_mono h fun σ H Q q => by
  obtain ⟨v, d, h1, h2, h3⟩ := hv σ _ q.1
  exact ⟨v, h1, q.2.2 H v d (Ex.refl _) h2 h3⟩
theorem ex_weak (h : PE X e (tEx S C R)) (hR : ∀ d, R d → R' d) : PE X e (tEx S C R') := pe_mono h fun σ H Q q => ⟨q.1, q.2.1, fun H' v d e1 q1 q2 => q.2.2 H' v d e1 q1 (hR d q2)⟩
theorem exs_nil : PA X [] (tExs S C R 0) := pa_mono pa_nil fun σ H Q h => h.2.2 H [] [] (Ex.refl _) .nil rfl (fun _ h => nomatch h)
theorem exs_cons (hC : Cl C) (he : PE X e (tEx S C R)) (hr : PA X es (tExs S C R n)) (hs : starEach (e :: es) X.env = (false, eval e X.env) :: starEach es X.env := by rfl) : PA X (e :: es) (tExs S C R (n + 1)) :=
  pa_mono (pa_cons he hr hs) fun σ H Q h => ⟨h.1, h.2.1, fun H1 v d e1 q1 r1 => ⟨hC σ _ _ (hex e1) h.1, h.2.1.ex e1, fun H2 vs ds e2 q2 hl r2 => h.2.2 H2 _ (d :: ds) (e1.trans e2) (.cons (q1.ex (hex e2)) q2) (by rw [List.length_cons, hl]) fun x hx => by
    rcases List.mem_cons.mp hx with rfl | hx
    · exact r1
    · exact r2 x hx⟩⟩
theorem ex_tup {x1 : Nat} (h : PA X es (tExs S C (Fine w k) n)) (hz : n ≤ 1000) : PE X (.Tuple es x1 pos) (tEx S C (Fine (n * (w + 1)) (k + 1))) :=
  pe_mono (pe_tup h) fun σ H Q q => ⟨q.1, q.2.1, fun H1 vs ds e1 q1 hl r1 => ⟨by rw [q1.len, hl]; exact len_line hz, fun p hp => q.2.2 _ _ (.tuple ds) (e1.trans (Ex.new hp)) (.tup (.inl (hnew (q.2.1.ex e1) hp)) (q1.ex (hex (Ex.new hp)))) (by
    have := Fine.tuple r1
    rw [hl] at this
    exact this)⟩⟩
theorem exl_lit (h : PA X es (tExs S C R n)) (hz : n ≤ 1000) : PE X (.List es pos) (tExL S C R n) :=
  pe_mono (pe_lst h) fun σ H Q q => ⟨q.1, q.2.1, fun H1 vs ds e1 q1 hl r1 => ⟨by rw [q1.len, hl]; exact len_line hz, fun p hp => q.2.2 _ _ _ ds (e1.trans (Ex.new hp)) upd_same ((q.2.1.ex e1).nin hp) (q1.ex (hex (Ex.new hp))) (Nat.le_of_eq hl) r1⟩⟩
theorem ex_lst (h : PE X e (tExL S C (Fine w k) n)) : PE X e (tEx S C (Fine (n * (w + 1)) (k + 1))) :=
  pe_mono h fun σ H Q q => ⟨q.1, q.2.1, fun H1 l xs ds e1 q1 nl q2 hl r1 => q.2.2 _ _ (.list ds) e1 (.lst (.inl (by rw [hid_ne nl]; exact q1)) q2) ((Fine.list r1).mono (Nat.mul_le_mul_right _ hl) (Nat.le_refl _))⟩
theorem exl_cat (hC : Cl C) (ha : PE X e (tExL S C R m)) (hb : PE X e2 (tExL S C R n)) (hz : m + n ≤ 1000) : PE X (.BinOp e .Add e2 pos) (tExL S C R (m + n)) :=
  pe_mono (pe_op op_cat ha hb) fun σ H Q q => ⟨q.1, q.2.1, fun H1 l xs ds e1 q1 n1 q2 hl r1 => ⟨hC σ _ _ (hex e1) q.1, q.2.1.ex e1, fun H2 l2 ys ds2 e2 q3 n2 q4 hl2 r2 => ⟨l, l2, xs, ys, rfl, rfl, e2 _ _ q1, q3, by rw [q2.len, q4.len]; exact len_line (by omega),
    fun p hp => q.2.2 _ _ _ (ds ++ ds2) ((e1.trans e2).trans (Ex.new hp)) upd_same ((q.2.1.ex (e1.trans e2)).nin hp) (((q2.ex (hex e2)).app q4).ex (hex (Ex.new hp))) (by rw [List.length_append]; omega) fun x hx => by
      rcases List.mem_append.mp hx with hx | hx
      · exact r1 x hx
      · exact r2 x hx⟩⟩⟩
theorem cut_mem {ds : List PyData} {lo hi : Option Int} {d : PyData} (h : d ∈ cutD ds lo hi) : d ∈ ds := by
  unfold cutD at h
  exact List.mem_of_mem_drop (List.mem_of_mem_take h)
section
variable {lo hi : Option Expr} {tl th : TO} {p2 : Pos} {xl xh : Option Int}
theorem exl_slice {te : TE} {K : PySem.W.Frag} (hK : X.K = K) (he : PE X e te) (hl : PO X lo tl) (hu : PO X hi th)
    (hv : ∀ σ H (Q : VK), C σ (hid (S σ) H) → (∀ a xs ds, Rd H a (.lst xs) → DqAll (hid (S σ) H) xs ds → ds.length ≤ n → (∀ d ∈ ds, R d) → Q (.ref a) H) → te σ H Q)
    (h1 : ∀ σ H (Q : Option Int → Hp → Prop), Q xl H → tl σ H Q) (h2 : ∀ σ H (Q : Option Int → Hp → Prop), Q xh H → th σ H Q) : PE X (.Subscript e (.Slice lo hi none p2) pos) (tExL S C R n) :=
  pe_mono (pe_slice sl_list he hl hu) fun σ H Q q => hv σ H _ q.1 fun a xs ds ha hd hn hr => h1 _ _ _ (h2 _ _ _ ⟨a, xs, rfl, .inl ha, fun p hp => q.2.2 _ _ _ (cutD ds xl xh) (Ex.new hp) upd_same (q.2.1.nin hp) ((dqa_cut hd xl xh).ex (hex (Ex.new hp))) (Nat.le_trans (cutD_len _ _) hn) fun d hd => hr d (cut_mem hd)⟩)
end
end
theorem go_exL {S : L2.St → List Addr} {C : L2.St → Hp → Prop} {R : PyData → Prop} {n : Nat} {σ : L2.St} {H : Hp} {Q : VK} (c : C σ (hid (S σ) H)) (t : Th (S σ) H) (k : ∀ H' l xs ds, Ex H H' → H' l = some (.lst xs) → l ∉ S σ → DqAll (hid (S σ) H') xs ds → ds.length ≤ n → (∀ d ∈ ds, R d) → Q (.ref l) H') : tExL S C R n σ H Q := ⟨c, t, k⟩
theorem go_ex {S : L2.St → List Addr} {C : L2.St → Hp → Prop} {R : PyData → Prop} {σ : L2.St} {H : Hp} {Q : VK} (c : C σ (hid (S σ) H)) (t : Th (S σ) H) (k : ∀ H' v d, Ex H H' → Dq (hid (S σ) H') v d → R d → Q v H') : tEx S C R σ H Q := ⟨c, t, k⟩
end HX

set_option Elab.async false
set_option linter.all false
set_option maxRecDepth 100000
set_option maxHeartbeats 4000000

namespace Kx
open PySem PySem.Spec PyProof.Rows L2 HX
open Evl (Ex)
local macro_rules | `(tactic| walk_at "side") => `(tactic| first | assumption | ((try dsimp only); first | assumption | decide +kernel | omega | exact ⟨by decide, by decide⟩ | (left; decide) | (left; omega) | (refine Or.inl ⟨?_, ?_⟩ <;> omega) | (refine Or.inr ⟨?_, ?_⟩ <;> omega)))
local macro_rules | `(tactic| walk_at "heap") => `(tactic| first | assumption | exact upd_same | exact Or.inl (by assumption) | exact Or.inl upd_same)
local macro_rules | `(tactic| walk_at "item") => `(tactic| first | exact rfl | exact atI_nat (j := 0) rfl | exact atI_nat (j := 1) rfl | exact atI_nat (j := 2) rfl | assumption)
local macro_rules | `(tactic| walk_at "rd") => `(tactic| repeat (first
  | ((with_reducible refine' go_var ?hv ?_); (case hv => exact rfl))
  | with_reducible refine' go_c ?_
  | with_reducible refine' go_op ?_
  | with_reducible refine' go_seq ?_
  | with_reducible refine' go_asg ?_
  | with_reducible refine' go_name ?_
  | with_reducible refine' go_cons ?_
  | with_reducible refine' go_nil ?_
  | with_reducible refine' go_cb ?_
  | with_reducible refine' go_call ?_
  | with_reducible refine' go_ifS ?_
  | with_reducible refine' go_test ?_
  | with_reducible refine' go_bl ?_
  | with_reducible refine' go_ret ?_
  | with_reducible refine' go_I0 ?_
  | ((with_reducible refine' go_I ?cc ?_); (case cc => walk_at "side"))
  | ((with_reducible refine' go_ixL ?hh ?hk ?_); (case hh => walk_at "heap"); (case hk => walk_at "item"))
  | ((with_reducible refine' go_ixT ?hh ?hk ?_); (case hh => walk_at "heap"); (case hk => walk_at "item"))
  | ((with_reducible refine' go_lenL ?hh ?_); (case hh => walk_at "heap"))
  | ((with_reducible refine' go_lenT ?hh ?_); (case hh => walk_at "heap"))
  | ((with_reducible refine' go_setL ?hh ?hk ?_); (case hh => walk_at "heap"); (case hk => walk_at "item"))
  | with_reducible refine' go_abs ?_
  | with_reducible refine' go_max ?_
  | with_reducible refine' go_min ?_
  | with_reducible refine' go_int ?_
  | with_reducible refine' go_intB ?_
  | (with_reducible refine' go_eq rfl ?_)
  | (with_reducible refine' go_ne rfl ?_)
  | with_reducible refine' go_isN ?_
  | with_reducible refine' go_notN ?_
  | with_reducible refine' go_if ?_
  | with_reducible refine' go_sub ?_
  | with_reducible refine' go_par ?_
  | with_reducible refine' go_sl ?_
  | with_reducible refine' go_part ?_
  | with_reducible refine' go_pint ?_
  | with_reducible refine' go_nopart ?_
  | ((with_reducible refine' go_lenL ?hh ?_); (case hh => walk_at "heap"))
  | ((with_reducible refine' go_lenT ?hh ?_); (case hh => walk_at "heap"))
  | ((with_reducible refine' go_lenS ?hh ?_); (case hh => assumption))
  | with_reducible refine' go_gcons ?_
  | with_reducible refine' go_gnil ?_
  | with_reducible refine' go_kw ?_
  | with_reducible refine' go_par2 ?_
  | with_reducible refine' go_next ?_
  | with_reducible refine' go_drop ?_
  | with_reducible refine' go_and ?_
  | with_reducible refine' go_or ?_
  | with_reducible refine' go_not ?_
  | with_reducible refine' go_B ?_
  | with_reducible refine' go_andV ?_
  | with_reducible refine' go_orV ?_
  | with_reducible refine' go_notV ?_
  | with_reducible refine' go_chain ?_
  | with_reducible refine' go_un ?_
  | with_reducible refine' go_U ?_
  | with_reducible refine' go_bm ?_
  | with_reducible refine' go_tup ?_
  | with_reducible refine' go_lst ?_
  | with_reducible refine' go_forR1 ?_
  | with_reducible refine' go_forR2 ?_
  | with_reducible refine' go_forL ?_
  | with_reducible refine' go_forT ?_
  | with_reducible refine' go_forE ?_
  | with_reducible refine' go_lcR1 ?_
  | with_reducible refine' go_lcL ?_
  | with_reducible refine' go_lcT ?_
  | ((with_reducible refine' go_tyL ?hh ?_); (case hh => walk_at "heap"))
  | ((with_reducible refine' go_new ?hz ?_); (case hz => exact Nat.le_of_ble_eq_true rfl))
  | (with_reducible refine' ⟨_, rfl, ?_⟩)
  ))
--MACEND
theorem go_forD {g : TG} {tb : TS} {D : Ends} {K : PySem.W.Frag} {tl : TE} {σ : L2.St} {H : Hp} (h : tl σ H fun x H1 => ∃ a, x = .ref a ∧ (∃ xs, SqL K H1 a xs) ∧ forL K a g tb D σ H1) : tFor (iList K tl) g tb D σ H := h
theorem go_yes {σ : L2.St} {H : Hp} {QT : Bool → Hp → Prop} (h : QT true H) : tYes σ H QT := h
def CR (sd : List PyData) (r : PyData) : L2.St → Hp → Prop := fun σ H => (∃ v, σ[1]? = some (some v) ∧ Dq H v (.list sd)) ∧ (∃ v, σ[2]? = some (some v) ∧ Dq H v r)
def CT (sd : List PyData) (r : PyData) : L2.St → Hp → Prop := fun σ H => CR sd r σ H ∧ ∃ v d, σ[4]? = some (some v) ∧ Dq H v d ∧ Fine 1900 3 d
theorem clR (sd : List PyData) (r : PyData) : Cl (CR sd r) := fun σ H H' e ⟨⟨v, h1, h2⟩, ⟨u, h3, h4⟩⟩ => ⟨⟨v, h1, h2.ex e⟩, ⟨u, h3, h4.ex e⟩⟩
theorem clT (sd : List PyData) (r : PyData) : Cl (CT sd r) := fun σ H H' e ⟨h, ⟨v, d, h1, h2, h3⟩⟩ => ⟨clR sd r σ H H' e h, ⟨v, d, h1, h2.ex e, h3⟩⟩
/-- the list that grows: slot 3 -/
def S3 : L2.St → List Addr := fun σ => match σ[3]? with | some (some (V.ref l)) => [l] | _ => []
def S0 : L2.St → List Addr := fun _ => []
structure Okd (sd : List PyData) (r : PyData) : Prop where
  len : sd.length ≤ 8
  it : ∀ d ∈ sd, Fine 1900 1 d
  rt : Fine 600 0 r
theorem tupF {l : List PyData} (h : ∀ x ∈ l, Fine 26000 9 x) (hn : l.length ≤ 3) : Fine 78100 10 (.tuple l) := (Fine.tuple h).mono (Nat.le_trans (Nat.mul_le_mul_right _ hn) (by decide)) (by decide)
theorem lstF {l : List PyData} (h : ∀ x ∈ l, Fine 26000 9 x) (hn : l.length ≤ 3) : Fine 78100 10 (.list l) := (Fine.list h).mono (Nat.le_trans (Nat.mul_le_mul_right _ hn) (by decide)) (by decide)
theorem tup1 {a : PyData} (ha : Fine 26000 9 a) : Fine 78100 10 (.tuple [a]) := tupF (fun x hx => by rw [List.mem_singleton.mp hx]; exact ha) (Nat.le_of_ble_eq_true rfl)
theorem tup2 {a b : PyData} (ha : Fine 26000 9 a) (hb : Fine 26000 9 b) : Fine 78100 10 (.tuple [a, b]) := tupF (two (l := []) ha hb) (Nat.le_of_ble_eq_true rfl)
theorem lst2 {a b : PyData} (ha : Fine 26000 9 a) (hb : Fine 26000 9 b) : Fine 78100 10 (.list [a, b]) := lstF (two (l := []) ha hb) (Nat.le_of_ble_eq_true rfl)
theorem tup3 {a b c : PyData} (ha : Fine 26000 9 a) (hb : Fine 26000 9 b) (hc : Fine 26000 9 c) : Fine 78100 10 (.tuple [a, b, c]) := tupF (fun x hx => by
  rcases List.mem_cons.mp hx with rfl | hx
  · exact ha
  · exact two (l := []) hb hc x hx) (Nat.le_of_ble_eq_true rfl)
theorem all_nil {R : PyData → Prop} : ∀ d ∈ ([] : List PyData), R d := fun _ h => nomatch h
theorem all_cons {R : PyData → Prop} {d : PyData} {ds : List PyData} (h : R d) (k : ∀ x ∈ ds, R x) : ∀ x ∈ d :: ds, R x := fun x hx => by
  rcases List.mem_cons.mp hx with rfl | hx
  · exact h
  · exact k x hx
theorem all_app {R : PyData → Prop} {ds es : List PyData} (h : ∀ x ∈ ds, R x) (k : ∀ x ∈ es, R x) : ∀ x ∈ ds ++ es, R x := fun x hx => by
  rcases List.mem_append.mp hx with hx | hx
  · exact h x hx
  · exact k x hx
theorem pack {G : Hp} {xs : List V} {ds : List PyData} (h : DqAll G xs ds) (n : ds.length ≤ 40) (f : ∀ d ∈ ds, Fine 78100 10 d) : ∃ ds : List PyData, DqAll G xs ds ∧ ds.length ≤ 40 ∧ ∀ d ∈ ds, Fine 78100 10 d := ⟨ds, h, n, f⟩
theorem fine1 {w k : Nat} {d : PyData} (h : (d.showable && d.leavesShort 200 && decide (d.weight ≤ w) && decide (d.depth ≤ k)) = true) : Fine w k d := fine_dec (l := [d]) (by simpa using h) d List.mem_cons_self
theorem jx_hid {D : Addr} {H G : Hp} (e : Jx [D] H G) (h : H D = none) : Ex H (hid [D] G) := fun b o q => by
  have hb : b ∉ [D] := nin1 fun z => by rw [z, h] at q; cases q
  exact e b o (by rw [hid_ne hb]; exact q)
def spOddR : Sp := fun vs H Q _ => ∃ (x : V) (sd : List PyData) (r : PyData), vs = [x] ∧ Dq H x (.tuple [.list sd, r]) ∧ Okd sd r ∧
  ∀ (p : Addr) (H' : Hp) (xs : List V) (ds : List PyData), Ex H H' → H' p = some (.lst xs) → DqAll H' xs ds → (∀ d ∈ ds, Fine 78100 10 d) → Q (.ref p) H'
section
variable {P : Program} {w : World} {K : PySem.W.Frag} {mg : Str → Option Value} {base : Heap}
end
end Kx

set_option Elab.async false
set_option linter.all false
set_option maxRecDepth 100000
set_option maxHeartbeats 2000000

namespace Kx
open PySem PySem.Spec PyProof.Rows L2 HX
open Evl (Ex)
local macro_rules | `(tactic| walk_at "side") => `(tactic| first | assumption | ((try dsimp only); first | assumption | decide +kernel | omega | exact ⟨by decide, by decide⟩ | (left; decide) | (left; omega) | (refine Or.inl ⟨?_, ?_⟩ <;> omega) | (refine Or.inr ⟨?_, ?_⟩ <;> omega)))
local macro_rules | `(tactic| walk_at "heap") => `(tactic| first | assumption | exact upd_same | exact Or.inl (by assumption) | exact Or.inl upd_same)
local macro_rules | `(tactic| walk_at "item") => `(tactic| first | exact rfl | exact atI_nat (j := 0) rfl | exact atI_nat (j := 1) rfl | exact atI_nat (j := 2) rfl | assumption)
local macro_rules | `(tactic| walk_at "rd") => `(tactic| repeat (first
  | ((with_reducible refine' go_var ?hv ?_); (case hv => exact rfl))
  | with_reducible refine' go_c ?_
  | with_reducible refine' go_op ?_
  | with_reducible refine' go_seq ?_
  | with_reducible refine' go_asg ?_
  | with_reducible refine' go_name ?_
  | with_reducible refine' go_cons ?_
  | with_reducible refine' go_nil ?_
  | with_reducible refine' go_cb ?_
  | with_reducible refine' go_call ?_
  | with_reducible refine' go_ifS ?_
  | with_reducible refine' go_test ?_
  | with_reducible refine' go_bl ?_
  | with_reducible refine' go_ret ?_
  | with_reducible refine' go_I0 ?_
  | ((with_reducible refine' go_I ?cc ?_); (case cc => walk_at "side"))
  | ((with_reducible refine' go_ixL ?hh ?hk ?_); (case hh => walk_at "heap"); (case hk => walk_at "item"))
  | ((with_reducible refine' go_ixT ?hh ?hk ?_); (case hh => walk_at "heap"); (case hk => walk_at "item"))
  | ((with_reducible refine' go_lenL ?hh ?_); (case hh => walk_at "heap"))
  | ((with_reducible refine' go_lenT ?hh ?_); (case hh => walk_at "heap"))
  | ((with_reducible refine' go_setL ?hh ?hk ?_); (case hh => walk_at "heap"); (case hk => walk_at "item"))
  | with_reducible refine' go_abs ?_
  | with_reducible refine' go_max ?_
  | with_reducible refine' go_min ?_
  | with_reducible refine' go_int ?_
  | with_reducible refine' go_intB ?_
  | (with_reducible refine' go_eq rfl ?_)
  | (with_reducible refine' go_ne rfl ?_)
  | with_reducible refine' go_isN ?_
  | with_reducible refine' go_notN ?_
  | with_reducible refine' go_if ?_
  | with_reducible refine' go_sub ?_
  | with_reducible refine' go_par ?_
  | with_reducible refine' go_sl ?_
  | with_reducible refine' go_part ?_
  | with_reducible refine' go_pint ?_
  | with_reducible refine' go_nopart ?_
  | ((with_reducible refine' go_lenL ?hh ?_); (case hh => walk_at "heap"))
  | ((with_reducible refine' go_lenT ?hh ?_); (case hh => walk_at "heap"))
  | ((with_reducible refine' go_lenS ?hh ?_); (case hh => assumption))
  | with_reducible refine' go_gcons ?_
  | with_reducible refine' go_gnil ?_
  | with_reducible refine' go_kw ?_
  | with_reducible refine' go_par2 ?_
  | with_reducible refine' go_next ?_
  | with_reducible refine' go_drop ?_
  | with_reducible refine' go_and ?_
  | with_reducible refine' go_or ?_
  | with_reducible refine' go_not ?_
  | with_reducible refine' go_B ?_
  | with_reducible refine' go_andV ?_
  | with_reducible refine' go_orV ?_
  | with_reducible refine' go_notV ?_
  | with_reducible refine' go_chain ?_
  | with_reducible refine' go_un ?_
  | with_reducible refine' go_U ?_
  | with_reducible refine' go_bm ?_
  | with_reducible refine' go_tup ?_
  | with_reducible refine' go_lst ?_
  | ((with_reducible refine' go_listL ?hh ?_); (case hh => walk_at "heap"))
  | with_reducible refine' go_forR1 ?_
  | with_reducible refine' go_forR2 ?_
  | with_reducible refine' go_forL ?_
  | with_reducible refine' go_forT ?_
  | with_reducible refine' go_forE ?_
  | with_reducible refine' go_lcR1 ?_
  | with_reducible refine' go_lcL ?_
  | with_reducible refine' go_lcT ?_
  | ((with_reducible refine' go_tyL ?hh ?_); (case hh => walk_at "heap"))
  | ((with_reducible refine' go_new ?hz ?_); (case hz => exact Nat.le_of_ble_eq_true rfl))
  | (with_reducible refine' ⟨_, rfl, ?_⟩)
  ))
--MACEND
/-- what the top has written of an own error without an __init__ -/
structure Err (K : PySem.W.Frag) (mg : Str → Option Value) (x : Str) (C : Addr) : Prop where
  g : mg x = some (.ref C)
  x : PySem.W.excIn K C [.type "ValueError", .type "Exception", .type "BaseException", .type "object"] "ValueError.__new__" = true
  k : PySem.W.keepIn K (.ref C) = true
  b : PySem.W.subIn K (.ref C) (.type "BaseException") = some true
  t : PySem.W.typeIn K (.ref C) = some (.type "type")
section
variable {P : Program} {w : World} {K : PySem.W.Frag} {mg : Str → Option Value} {base : Heap}
/-- a look that may raise: a right value passes, a wrong one is told -/
def spCheckE (f : PyData → Bool) (C : Addr) : Sp := fun vs H Q E => ∃ x d, vs = [x] ∧ Dq H x d ∧ (f d = true → ∀ H', Ex H H' → Q .non H') ∧ (f d = false → ∀ H', Ex H H' → E (.ref C) none H')
abbrev s_check_dial : Stmt := top 24
theorem sc_check_dial : FnScope ["dial"] ["dial"] (defScope s_check_dial) := ⟨rfl, rfl, rfl, by decide +kernel, rfl, by decide +kernel, by decide +kernel⟩
theorem ok_check_dialE {C f : Addr} {fd : FuncData} (F : Fun K "check_dial" "check_dial" s_check_dial f fd) (T_InvalidDial : Err K mg "InvalidDial" C) (h_is_integer : Has P w K mg base 1 "is_integer" (spLook isInt)) :
    FnOk P w K mg base (L2N.CX P w) 2 f fd ["dial"] (spCheckE isInt C) := by
  refine okXN F sc_check_dial (fun vs H Q E h => ?_) (fun cdv A outer s H vs Q E hr h => ?_)
  · obtain ⟨x, d, rfl, _⟩ := h
    rfl
  · obtain ⟨x, d, rfl, hd, k1, k2⟩ := h
    refine ⟨_, (pss_one (ps_if (pt_not (pt_val (pe_hs h_is_integer hr rfl (pa_cons (pv 0) pa_nil))))
  (pss_one (L2N.ps_raise rfl (L2N.takes_of rfl rfl rfl rfl) (L2N.pmk_own PySem.F.excBase_ValueError T_InvalidDial.x T_InvalidDial.g T_InvalidDial.k (raises_own T_InvalidDial.b T_InvalidDial.t) rfl)))
  pss_nil)), ?_⟩
    walk_at "rd"
    refine look_go hd fun H1 e1 => ?_
    walk_at "rd"
    cases q : isInt d with
    | true =>
      refine iteF ?_
      walk_at "rd"
      exact k1 q _ e1
    | false =>
      refine iteT ?_
      exact k2 q _ e1
end
end Kx

set_option Elab.async false
set_option linter.all false
set_option maxRecDepth 100000
set_option maxHeartbeats 2000000
/-! ranges whose ends are of any size -/
namespace HX
open PySem PySem.Spec PyProof.Rows L2
theorem turn_long {P : Program} {w : World} {K : PySem.W.Frag} {tg : Expr} (it : Addr) (lo : Int) (n : Nat) : Turn P w K tg (Itr lo n) [it] it (fun i h => IsLongIter h it (lo + (i : Nat) * 1) ((n : Int) - (i : Nat)) 1) where
  mem := by simp
  obj := fun i h st b hb => by
    obtain rfl : b = it := by simpa using hb
    exact ⟨_, st, fun v z => nomatch z⟩
  keep := fun i h h' st k => k it (by simp) _ st
  item := by
    intro X hP hw hK hc i pins s σ H E I hf st hg
    subst hP hw hK
    obtain ⟨f0, f1, f2, f3, f4, f5⟩ := hf it (by simp)
    have W := Walks.longrange (prog := X.prog) (w := X.w) (I.ok.hd hc) it lo 1 n
    refine W.item i s _ _ hg st fun v h' tk hv st' kk => ?_
    obtain ⟨t, rfl⟩ := hv
    have I1 : Inv X pins σ H { s with heap := h', toks := tk } := I.turned (fun b o hb e => kk b o (by simpa using hb) e) f0 f1 f3 f4 f5
    refine ⟨_, rfl, go_of (s := { s with heap := h', toks := tk }) (n := "longrange_iterator") st' rfl rfl (by decide) ⟨.int (lo + i), H, I1, ⟨t, ?_⟩, ⟨rfl, rfl⟩, st', fun b hb => (hf b hb).1⟩⟩
    rw [Int.mul_one]
  done := by
    intro X hP hw hK hc i pins s σ H E I hf st hg
    subst hP hw hK
    obtain ⟨f0, f1, f2, f3, f4, f5⟩ := hf it (by simp)
    exact wpAny_pyNext_long_end (I.ok.hd hc) st (by have : n ≤ i := hg; omega) fun h' eb => ⟨rfl, I.turned (t' := s.toks) (fun b o hb e => eb b o hb e) f0 f1 f3 f4 f5⟩
  self := fun _ _ _ _ _ st h => wpAny_pyIter_longiter st h
section
variable {X : Cx} {tg : Expr}
theorem range_itW {pins : List (Addr × Obj)} {σ : L2.St} {H : Hp} {s : Shared} {R : It → Hp → Prop} {E : Value → Shared → Prop} {lo hi : Int} {t u v : Tok} {tk : Nat} (I : Inv X pins σ H s) (q : R (Itr lo (hi - lo).toNat) H) :
    wpAny (model X.prog X.w) X.A (pyIter (.ref s.heap.objs.size)) (PIE X pins σ tg R) E { s with heap := s.heap.push { cls := .type "range", data := .fields #[.int lo t, .int hi u, .int 1 v] }, toks := tk } := by
  have I1 : Inv X pins σ H { s with heap := s.heap.push { cls := .type "range", data := .fields #[.int lo t, .int hi u, .int 1 v] }, toks := tk } := I.kept fun b o e => Heap.get?_push_of_some _ e
  have e1 : lo + ((0 : Nat) : Int) * 1 = lo := by simp
  have e2 : (((hi - lo).toNat : Nat) : Int) - ((0 : Nat) : Int) = Builtin.Range.rangeSize lo hi 1 := by rw [rangeSize_one]; split <;> omega
  have fp : ∀ b ∈ [(s.heap.push { cls := .type "range", data := .fields #[.int lo t, .int hi u, .int 1 v] }).objs.size], FpOk X pins H b := fun b hb => by
    obtain rfl : b = (s.heap.push { cls := .type "range", data := .fields #[.int lo t, .int hi u, .int 1 v] }).objs.size := by simpa using hb
    exact I1.fpOk (Nat.le_refl _) (I1.hok.fresh (Nat.le_refl _))
  cases hs : Builtin.Range.small lo hi 1 with
  | true =>
    refine wpAny_pyIter_range (IsRange.new ..) hs ?_
    refine ⟨_, [(s.heap.push { cls := .type "range", data := .fields #[.int lo t, .int hi u, .int 1 v] }).objs.size], _, _, H, rfl, I1.kept (t' := tk) fun b o e => Heap.get?_push_of_some _ e, turn_range _ lo (hi - lo).toNat, ?_, fp, q⟩
    show IsRangeIter _ _ (lo + ((0 : Nat) : Int) * 1) ((((hi - lo).toNat : Nat) : Int) - ((0 : Nat) : Int)) 1
    rw [e1, e2]
    exact Heap.get?_push_size _ rfl
  | false =>
    refine wpAny_pyIter_longrange (IsRange.new ..) hs ?_
    refine ⟨_, [(s.heap.push { cls := .type "range", data := .fields #[.int lo t, .int hi u, .int 1 v] }).objs.size], _, _, H, rfl, I1.kept (t' := tk) fun b o e => Heap.get?_push_of_some _ e, turn_long _ lo (hi - lo).toNat, ?_, fp, q⟩
    show IsLongIter _ _ (lo + ((0 : Nat) : Int) * 1) ((((hi - lo).toNat : Nat) : Int) - ((0 : Nat) : Int)) 1
    rw [e1, e2]
    exact Heap.get?_push_size _ rfl
/-- range(a, b), of any ends -/
def iRng2W (ta : TA) : TI := fun σ H R => ta σ H fun vs H1 => ∃ i j : Int, vs = [.int i, .int j] ∧ R (Itr i (j - i).toNat) H1
theorem pi_range2W {a b : Expr} {ta : TA} {p pos : Pos} (hg : Gl X "range") (hm : X.mg "range" = none) (ha : PA X [a, b] ta) (hs : starEach [a, b] X.env = [(false, eval a X.env), (false, eval b X.env)] := by rfl) (hs2 : starEach [b] X.env = [(false, eval b X.env)] := by rfl) :
    PI X tg (.Call (.Name "range" p) [a, b] [] pos) (iRng2W ta) := by
  refine ⟨fun pins s σ H R I h => ?_⟩
  refine Call_ (ld_blt I hg hm boot_range (PyProof.Rows.callWith_type1 (thn (ha.run pos pins s σ H _ I h) fun us s1 ⟨vs, H1, I1, r1, q1⟩ => ?_) (by rw [hs, hs2]) (by rw [hs2]; rfl)))
  obtain ⟨i, j, rfl, q⟩ := q1
  obtain ⟨u1, u2, rfl, ⟨t, rfl⟩, ⟨t', rfl⟩⟩ := vals2 r1
  exact call_range_2 (range_itW I1 q)
theorem go_lcR2W {ta : TA} {g : TG} {tt : TT} {te : TE} {vs : List Nat} {σ : L2.St} {H : Hp} {Q : VK} (h : ta σ H fun us H1 => ∃ i j : Int, us = [.int i, .int j] ∧ lcR i (j - i).toNat g tt te vs σ H1 Q) : tLc (iRng2W ta) g tt te vs σ H Q := h
theorem go_forR2W {ta : TA} {g : TG} {tb : TS} {D : Ends} {σ : L2.St} {H : Hp} (h : ta σ H fun vs H1 => ∃ i j : Int, vs = [.int i, .int j] ∧ forR i (j - i).toNat g tb D σ H1) : tFor (iRng2W ta) g tb D σ H := h
end
end HX

set_option Elab.async false
set_option linter.all false
set_option maxRecDepth 100000
set_option maxHeartbeats 2000000

namespace Kx
open PySem PySem.Spec PyProof.Rows L2 HX
open Evl (Ex)
local macro_rules | `(tactic| walk_at "side") => `(tactic| first | assumption | ((try dsimp only); first | assumption | decide +kernel | omega | exact ⟨by decide, by decide⟩ | (left; decide) | (left; omega) | (refine Or.inl ⟨?_, ?_⟩ <;> omega) | (refine Or.inr ⟨?_, ?_⟩ <;> omega)))
local macro_rules | `(tactic| walk_at "heap") => `(tactic| first | assumption | exact upd_same | exact Or.inl (by assumption) | exact Or.inl upd_same)
local macro_rules | `(tactic| walk_at "item") => `(tactic| first | exact rfl | exact atI_nat (j := 0) rfl | exact atI_nat (j := 1) rfl | exact atI_nat (j := 2) rfl | assumption)
local macro_rules | `(tactic| walk_at "rd") => `(tactic| repeat (first
  | ((with_reducible refine' go_var ?hv ?_); (case hv => exact rfl))
  | with_reducible refine' go_c ?_
  | with_reducible refine' go_op ?_
  | with_reducible refine' go_seq ?_
  | with_reducible refine' go_asg ?_
  | with_reducible refine' go_name ?_
  | with_reducible refine' go_cons ?_
  | with_reducible refine' go_nil ?_
  | with_reducible refine' go_cb ?_
  | with_reducible refine' go_call ?_
  | with_reducible refine' go_ifS ?_
  | with_reducible refine' go_test ?_
  | with_reducible refine' go_bl ?_
  | with_reducible refine' go_ret ?_
  | with_reducible refine' go_I0 ?_
  | ((with_reducible refine' go_I ?cc ?_); (case cc => walk_at "side"))
  | ((with_reducible refine' go_ixL ?hh ?hk ?_); (case hh => walk_at "heap"); (case hk => walk_at "item"))
  | ((with_reducible refine' go_ixT ?hh ?hk ?_); (case hh => walk_at "heap"); (case hk => walk_at "item"))
  | ((with_reducible refine' go_lenL ?hh ?_); (case hh => walk_at "heap"))
  | ((with_reducible refine' go_lenT ?hh ?_); (case hh => walk_at "heap"))
  | ((with_reducible refine' go_setL ?hh ?hk ?_); (case hh => walk_at "heap"); (case hk => walk_at "item"))
  | with_reducible refine' go_abs ?_
  | with_reducible refine' go_max ?_
  | with_reducible refine' go_min ?_
  | with_reducible refine' go_int ?_
  | with_reducible refine' go_intB ?_
  | (with_reducible refine' go_eq rfl ?_)
  | (with_reducible refine' go_ne rfl ?_)
  | with_reducible refine' go_isN ?_
  | with_reducible refine' go_notN ?_
  | with_reducible refine' go_if ?_
  | with_reducible refine' go_sub ?_
  | with_reducible refine' go_par ?_
  | with_reducible refine' go_sl ?_
  | with_reducible refine' go_part ?_
  | with_reducible refine' go_pint ?_
  | with_reducible refine' go_nopart ?_
  | ((with_reducible refine' go_lenL ?hh ?_); (case hh => walk_at "heap"))
  | ((with_reducible refine' go_lenT ?hh ?_); (case hh => walk_at "heap"))
  | ((with_reducible refine' go_lenS ?hh ?_); (case hh => assumption))
  | with_reducible refine' go_gcons ?_
  | with_reducible refine' go_gnil ?_
  | with_reducible refine' go_kw ?_
  | with_reducible refine' go_par2 ?_
  | with_reducible refine' go_next ?_
  | with_reducible refine' go_drop ?_
  | with_reducible refine' go_and ?_
  | with_reducible refine' go_or ?_
  | with_reducible refine' go_not ?_
  | with_reducible refine' go_B ?_
  | with_reducible refine' go_andV ?_
  | with_reducible refine' go_orV ?_
  | with_reducible refine' go_notV ?_
  | with_reducible refine' go_chain ?_
  | with_reducible refine' go_un ?_
  | with_reducible refine' go_U ?_
  | with_reducible refine' go_bm ?_
  | with_reducible refine' go_tup ?_
  | with_reducible refine' go_lst ?_
  | with_reducible refine' go_forR1 ?_
  | with_reducible refine' go_forR2 ?_
  | with_reducible refine' go_forL ?_
  | with_reducible refine' go_forT ?_
  | with_reducible refine' go_forE ?_
  | with_reducible refine' go_lcR1 ?_
  | with_reducible refine' go_lcL ?_
  | with_reducible refine' go_lcT ?_
  | ((with_reducible refine' go_tyL ?hh ?_); (case hh => walk_at "heap"))
  | ((with_reducible refine' go_new ?hz ?_); (case hz => exact Nat.le_of_ble_eq_true rfl))
  | (with_reducible refine' ⟨_, rfl, ?_⟩)
  ))
--MACEND
/-! ### folds -/
abbrev Sm (x : Int) : Prop := x.natAbs < 2 ^ 3000
def rDmW : List V → Hp → VK → Prop := fun xs H Q => ∃ i j, xs = [.int i, .int j] ∧ CDivP i j ∧ ∀ p, H p = none → Q (.ref p) (upd H p (.tup [.int (i / j), .int (i % j)]))
theorem call_dmW {X : Cx} : CallR X (.builtin "divmod") rDmW := call_divmodW
theorem go_dmW {i j : Int} {H : Hp} {Q : VK} (h : CDivP i j) (k : ∀ p, H p = none → Q (.ref p) (upd H p (.tup [.int (i / j), .int (i % j)]))) : rDmW [.int i, .int j] H Q := ⟨i, j, rfl, h, k⟩
theorem divP {i j : Int} (hj : 0 < j) (hi : i.natAbs < 2 ^ 3500) : CDivP i j := divp_ok hj (by
  have h1 := PyProof.Rows.intBits_le hi
  omega)
def ffold (r x : Int) : Int := if (x - 1) % r < r / 2 then 2 * ((x - 1) / r) else 2 * ((x - 1) / r) + 1
def lfold (r x : Int) : Int := if x % r < r - r / 2 then 2 * (x / r) else 2 * (x / r) + 1
def lowF (r f : Int) : Int := if f % 2 = 0 then f / 2 * r else f / 2 * r + r - r / 2
def highF (r f : Int) : Int := if f % 2 = 0 then f / 2 * r + r / 2 else f / 2 * r + r
def wayF (f : Int) : Int := if f % 2 = 0 then 1 else -1
def spFold (g : Int → Int → Int) : Sp := fun vs H Q _ => ∃ r x, vs = [.int r, .int x] ∧ 2 ≤ r ∧ Sm x ∧ ∀ H', Ex H H' → Q (.int (g r x)) H'
def spEnds : Sp := fun vs H Q _ => ∃ r f, vs = [.int r, .int f] ∧ 2 ≤ r ∧ Sm r ∧ Sm f ∧ ∀ p H', Ex H H' → H' p = some (.tup [.int (lowF r f), .int (highF r f)]) → Q (.ref p) H'
def spWay : Sp := fun vs H Q _ => ∃ f, vs = [.int f] ∧ ∀ H', Ex H H' → Q (.int (wayF f)) H'
theorem sm_sub1 {x : Int} (h : Sm x) : (x - 1).natAbs < 2 ^ 3500 := by
  have h1 : (x - 1).natAbs ≤ x.natAbs + 1 := by omega
  have h2 : (2 : Nat) ^ 3000 + 1 ≤ 2 ^ 3500 := by decide +kernel
  omega
theorem sm_wide {x : Int} (h : Sm x) : x.natAbs < 2 ^ 3500 := Nat.lt_trans h (by decide +kernel)
theorem sm_half {x : Int} (h : Sm x) : (x / 2).natAbs < 2 ^ 3001 := by
  have h1 : (x / 2).natAbs ≤ x.natAbs + 1 := by omega
  have h2 : (2 : Nat) ^ 3000 + 1 ≤ 2 ^ 3001 := by decide +kernel
  omega
section
variable {P : Program} {w : World} {K : PySem.W.Frag} {mg : Str → Option Value} {base : Heap}
end
end Kx

set_option Elab.async false
set_option linter.all false
set_option maxRecDepth 100000
set_option maxHeartbeats 2000000

namespace Kx
open PySem PySem.Spec PyProof.Rows L2 HX
open Evl (Ex)
local macro_rules | `(tactic| walk_at "side") => `(tactic| first | assumption | ((try dsimp only); first | assumption | decide +kernel | omega | exact ⟨by decide, by decide⟩ | (left; decide) | (left; omega) | (refine Or.inl ⟨?_, ?_⟩ <;> omega) | (refine Or.inr ⟨?_, ?_⟩ <;> omega)))
local macro_rules | `(tactic| walk_at "heap") => `(tactic| first | assumption | exact upd_same | exact Or.inl (by assumption) | exact Or.inl upd_same)
local macro_rules | `(tactic| walk_at "item") => `(tactic| first | exact rfl | exact atI_nat (j := 0) rfl | exact atI_nat (j := 1) rfl | exact atI_nat (j := 2) rfl | assumption)
local macro_rules | `(tactic| walk_at "rd") => `(tactic| repeat (first
  | ((with_reducible refine' go_var ?hv ?_); (case hv => exact rfl))
  | with_reducible refine' go_c ?_
  | with_reducible refine' go_op ?_
  | with_reducible refine' go_seq ?_
  | with_reducible refine' go_asg ?_
  | with_reducible refine' go_name ?_
  | with_reducible refine' go_cons ?_
  | with_reducible refine' go_nil ?_
  | with_reducible refine' go_cb ?_
  | with_reducible refine' go_call ?_
  | with_reducible refine' go_ifS ?_
  | with_reducible refine' go_test ?_
  | with_reducible refine' go_bl ?_
  | with_reducible refine' go_ret ?_
  | with_reducible refine' go_I0 ?_
  | ((with_reducible refine' go_I ?cc ?_); (case cc => walk_at "side"))
  | ((with_reducible refine' go_ixL ?hh ?hk ?_); (case hh => walk_at "heap"); (case hk => walk_at "item"))
  | ((with_reducible refine' go_ixT ?hh ?hk ?_); (case hh => walk_at "heap"); (case hk => walk_at "item"))
  | ((with_reducible refine' go_lenL ?hh ?_); (case hh => walk_at "heap"))
  | ((with_reducible refine' go_lenT ?hh ?_); (case hh => walk_at "heap"))
  | ((with_reducible refine' go_setL ?hh ?hk ?_); (case hh => walk_at "heap"); (case hk => walk_at "item"))
  | with_reducible refine' go_abs ?_
  | with_reducible refine' go_max ?_
  | with_reducible refine' go_min ?_
  | with_reducible refine' go_int ?_
  | with_reducible refine' go_intB ?_
  | (with_reducible refine' go_eq rfl ?_)
  | (with_reducible refine' go_ne rfl ?_)
  | with_reducible refine' go_isN ?_
  | with_reducible refine' go_notN ?_
  | with_reducible refine' go_if ?_
  | with_reducible refine' go_sub ?_
  | with_reducible refine' go_par ?_
  | with_reducible refine' go_sl ?_
  | with_reducible refine' go_part ?_
  | with_reducible refine' go_pint ?_
  | with_reducible refine' go_nopart ?_
  | ((with_reducible refine' go_lenL ?hh ?_); (case hh => walk_at "heap"))
  | ((with_reducible refine' go_lenT ?hh ?_); (case hh => walk_at "heap"))
  | ((with_reducible refine' go_lenS ?hh ?_); (case hh => assumption))
  | with_reducible refine' go_gcons ?_
  | with_reducible refine' go_gnil ?_
  | with_reducible refine' go_kw ?_
  | with_reducible refine' go_par2 ?_
  | with_reducible refine' go_next ?_
  | with_reducible refine' go_drop ?_
  | with_reducible refine' go_and ?_
  | with_reducible refine' go_or ?_
  | with_reducible refine' go_not ?_
  | with_reducible refine' go_B ?_
  | with_reducible refine' go_andV ?_
  | with_reducible refine' go_orV ?_
  | with_reducible refine' go_notV ?_
  | with_reducible refine' go_chain ?_
  | with_reducible refine' go_un ?_
  | with_reducible refine' go_U ?_
  | with_reducible refine' go_bm ?_
  | with_reducible refine' go_tup ?_
  | with_reducible refine' go_lst ?_
  | with_reducible refine' go_forR1 ?_
  | with_reducible refine' go_forR2 ?_
  | with_reducible refine' go_forL ?_
  | with_reducible refine' go_forT ?_
  | with_reducible refine' go_forE ?_
  | with_reducible refine' go_lcR1 ?_
  | with_reducible refine' go_lcL ?_
  | with_reducible refine' go_lcT ?_
  | ((with_reducible refine' go_tyL ?hh ?_); (case hh => walk_at "heap"))
  | ((with_reducible refine' go_new ?hz ?_); (case hz => exact Nat.le_of_ble_eq_true rfl))
  | (with_reducible refine' ⟨_, rfl, ?_⟩)
  ))
--MACEND
/-! ### stretches -/
/-- a stretch: its least and its greatest signal, the number of the least one, the way -/
structure Sx where
  lo : Int
  hi : Option Int
  num : Int
  way : Int
@[reducible] def Sx.v (s : Sx) : List V := [.int s.lo, optV s.hi, .int s.num, .int s.way]
/-- v is a tuple of H with this stretch -/
def Tx (H : Hp) (v : V) (s : Sx) : Prop := ∃ a, v = .ref a ∧ H a = some (.tup s.v)
theorem Tx.ex {H H' : Hp} {v : V} {s : Sx} (e : Ex H H') : Tx H v s → Tx H' v s := fun ⟨a, h1, h2⟩ => ⟨a, h1, e _ _ h2⟩
def Wy (s : Sx) : Prop := s.way = 1 ∨ s.way = -1
def sigOf (s : Sx) (n : Int) : Int := s.lo + s.way * (n - s.num)
def topOf (g h : Option Int) : Option Int := match g, h with
  | none, h => h
  | some g, none => some g
  | some g, some h => if h < g then some h else some g
@[reducible] def mnI (a b : Int) : Int := if b < a then b else a
@[reducible] def mxI (a b : Int) : Int := if b > a then b else a
def cutS (s : Sx) (low : Int) (high : Option Int) : Option Sx :=
  match topOf s.hi high with
  | some l => if l < mxI s.lo low then none else some ⟨mxI s.lo low, some l, s.num + s.way * (mxI s.lo low - s.lo), s.way⟩
  | none => some ⟨mxI s.lo low, none, s.num + s.way * (mxI s.lo low - s.lo), s.way⟩
def cutN (s : Sx) (low high : Int) : Option Sx := cutS s (mnI (sigOf s low) (sigOf s high)) (some (mxI (sigOf s low) (sigOf s high)))
def spSig : Sp := fun vs H Q _ => ∃ v s n, vs = [v, .int n] ∧ Tx H v s ∧ Wy s ∧ ∀ H', Ex H H' → Q (.int (sigOf s n)) H'
/-- what a cut hands back: None, or a new tuple -/
def Back (o : Option Sx) (H : Hp) (Q : VK) : Prop := match o with
  | none => ∀ H', Ex H H' → Q .non H'
  | some s => ∀ p H', Ex H H' → H' p = some (.tup s.v) → Q (.ref p) H'
def spCutS : Sp := fun vs H Q _ => ∃ v s low high, vs = [v, .int low, optV high] ∧ Tx H v s ∧ Wy s ∧ Back (cutS s low high) H Q
def spCutN : Sp := fun vs H Q _ => ∃ v s low high, vs = [v, .int low, .int high] ∧ Tx H v s ∧ Wy s ∧ Back (cutN s low high) H Q
theorem back_ex {o : Option Sx} {H H1 : Hp} {Q : VK} (e : Ex H H1) (b : Back o H Q) : Back o H1 Q := by
  cases o with
  | none => exact fun H' e' => b H' (e.trans e')
  | some s => exact fun p H' e' h => b p H' (e.trans e') h
theorem wy_mul {s : Sx} (h : Wy s) (x : Int) : CMul s.way x := by
  rcases h with h | h <;> (rw [h]; exact .inl ⟨by decide, by decide⟩)
section
variable {P : Program} {w : World} {K : PySem.W.Frag} {mg : Str → Option Value} {base : Heap}
abbrev s_signal_of : Stmt := top 32
theorem sc_signal_of : FnScope ["stretch", "number", "least", "_", "start", "way"] ["stretch", "number"] (defScope s_signal_of) := ⟨rfl, rfl, rfl, by decide +kernel, rfl, by decide +kernel, by decide +kernel⟩
theorem ok_signal_of {f : Addr} {fd : FuncData} (F : Fun K "signal_of" "signal_of" s_signal_of f fd) : FnOk P w K mg base CX0 1 f fd ["stretch", "number"] spSig := by
  refine F.ok sc_signal_of (fun vs H Q E h => ?_) (fun cdv A outer s H vs Q E hr h => ?_)
  · obtain ⟨v, s, n, rfl, _⟩ := h
    rfl
  · obtain ⟨v, s, n, rfl, ⟨a, rfl, ha⟩, hw, k⟩ := h
    refine ⟨_, (pss_cons (ps_asg (pv 0) (pg_tup (by rfl) (pgs_cons (pg_name (i := 2) sc_signal_of.nd rfl (Or.inl rfl)) (pgs_cons (pg_name (i := 3) sc_signal_of.nd rfl (Or.inl rfl)) (pgs_cons (pg_name (i := 4) sc_signal_of.nd rfl (Or.inl rfl)) (pgs_cons (pg_name (i := 5) sc_signal_of.nd rfl (Or.inl rfl)) pgs_nil))))))
  (pss_one (ps_ret (pe_op op_add (pv 2) (pe_op op_mul (pv 5) (pe_op op_sub (pv 1) (pv 4))))))), ?_⟩
    walk_at "rd"
    refine go_gtup (.inl (.inl ha)) rfl ?_
    have hm := wy_mul hw (n - s.num)
    walk_at "rd"
    exact k _ (Ex.refl _)
abbrev s_cut_to_signals : Stmt := top 33
theorem sc_cut_to_signals : FnScope ["stretch", "low", "high", "least", "greatest", "number", "way", "first", "last"] ["stretch", "low", "high"] (defScope s_cut_to_signals) := ⟨rfl, rfl, rfl, by decide +kernel, rfl, by decide +kernel, by decide +kernel⟩
theorem ok_cutS {f : Addr} {fd : FuncData} (F : Fun K "cut_to_signals" "cut_to_signals" s_cut_to_signals f fd) (m_max : mg "max" = none) : FnOk P w K mg base CX0 1 f fd ["stretch", "low", "high"] spCutS := by
  refine F.ok sc_cut_to_signals (fun vs H Q E h => ?_) (fun cdv A outer s H vs Q E hr h => ?_)
  · obtain ⟨v, s, l, h', rfl, _⟩ := h
    rfl
  · obtain ⟨v, s, low, high, rfl, ⟨a, rfl, ha⟩, hw, k⟩ := h
    refine ⟨_, (pss_cons (ps_asg (pv 0) (pg_tup (by rfl) (pgs_cons (pg_name (i := 3) sc_cut_to_signals.nd rfl (Or.inl rfl)) (pgs_cons (pg_name (i := 4) sc_cut_to_signals.nd rfl (Or.inl rfl)) (pgs_cons (pg_name (i := 5) sc_cut_to_signals.nd rfl (Or.inl rfl)) (pgs_cons (pg_name (i := 6) sc_cut_to_signals.nd rfl (Or.inl rfl)) pgs_nil))))))
  (pss_cons (ps_set (i := 7) sc_cut_to_signals.nd rfl (Or.inl rfl) (pe_callB (call_maxQ rfl) rfl m_max boot_max (pa_cons (pv 3) (pa_cons (pv 1) pa_nil))))
  (pss_cons (ps_set (i := 8) sc_cut_to_signals.nd rfl (Or.inl rfl) (pv 4))
  (pss_cons (ps_if (PW.pt (pw_or (pt_cmpR op_isN1 (pv 4) pe_non (nomark _)) (pw_or1 (PW.pt (pw_and (pt_cmpR op_notN1 (pv 2) pe_non (nomark _)) (pw_and1 (pt_cmpR op_lt (pv 2) (pv 4) (nomark _))))))))
  (pss_one (ps_set (i := 8) sc_cut_to_signals.nd rfl (Or.inl rfl) (pv 2)))
  pss_nil)
  (pss_cons (ps_if (PW.pt (pw_and (pt_cmpR op_notN1 (pv 8) pe_non (nomark _)) (pw_and1 (pt_cmpR op_gt (pv 7) (pv 8) (nomark _)))))
  (pss_one (ps_ret pe_non))
  pss_nil)
  (pss_one (ps_ret (pe_tup (pa_cons (pv 7) (pa_cons (pv 8) (pa_cons (pe_op op_add (pv 5) (pe_op op_mul (pv 6) (pe_op op_sub (pv 7) (pv 3)))) (pa_cons (pv 6) pa_nil)))))))))))), ?_⟩
    walk_at "rd"
    refine go_gtup (.inl (.inl ha)) rfl ?_
    walk_at "rd"
    have hm := wy_mul hw (mxI s.lo low - s.lo)
    unfold cutS at k
    cases hs : s.hi with
    | none =>
      rw [hs] at k
      cases high with
      | none =>
        simp only [optV, topOf] at k ⊢
        walk_at "rd"
        refine ite2 (fun _ => ?_) (fun c => absurd (by simp) c)
        rw [if_pos trivial]
        walk_at "rd"
        refine ite2 (fun c => absurd c (by simp)) (fun _ => ?_)
        refine iteF ?_
        walk_at "rd"
        intro p hp
        exact k p _ (Ex.new hp) upd_same
      | some h =>
        simp only [optV, topOf] at k ⊢
        walk_at "rd"
        refine ite2 (fun _ => ?_) (fun c => absurd (by simp) c)
        rw [if_pos trivial]
        walk_at "rd"
        refine ite2 (fun _ => ?_) (fun c => absurd c (by simp))
        walk_at "rd"
        refine ite2 (fun c => ?_) (fun c => ?_)
        · rw [if_pos (of_decide_eq_true c)] at k
          walk_at "rd"
          exact k _ (Ex.refl _)
        · rw [if_neg (fun z => c (decide_eq_true z))] at k
          walk_at "rd"
          intro p hp
          exact k p _ (Ex.new hp) upd_same
    | some g =>
      rw [hs] at k
      cases high with
      | none =>
        simp only [optV, topOf] at k ⊢
        walk_at "rd"
        refine ite2 (fun c => absurd (of_decide_eq_true c) (by simp)) (fun _ => ?_)
        walk_at "rd"
        refine ite2 (fun c => absurd c (by simp)) (fun _ => iteF ?_)
        walk_at "rd"
        refine ite2 (fun _ => ?_) (fun c => absurd c (by simp))
        walk_at "rd"
        refine ite2 (fun c => ?_) (fun c => ?_)
        · rw [if_pos (of_decide_eq_true c)] at k
          walk_at "rd"
          exact k _ (Ex.refl _)
        · rw [if_neg (fun z => c (decide_eq_true z))] at k
          walk_at "rd"
          intro p hp
          exact k p _ (Ex.new hp) upd_same
      | some h =>
        simp only [optV, topOf] at k ⊢
        walk_at "rd"
        refine ite2 (fun c => absurd (of_decide_eq_true c) (by simp)) (fun _ => ?_)
        walk_at "rd"
        refine ite2 (fun _ => ?_) (fun c => absurd c (by simp))
        walk_at "rd"
        refine ite2 (fun c => ?_) (fun c => ?_)
        · rw [if_pos (of_decide_eq_true c)] at k
          walk_at "rd"
          dsimp only at k
          refine ite2 (fun _ => ?_) (fun c => absurd c (by simp))
          walk_at "rd"
          refine ite2 (fun c => ?_) (fun c => ?_)
          · rw [if_pos (of_decide_eq_true c)] at k
            walk_at "rd"
            exact k _ (Ex.refl _)
          · rw [if_neg (fun z => c (decide_eq_true z))] at k
            walk_at "rd"
            intro p hp
            exact k p _ (Ex.new hp) upd_same
        · rw [if_neg (fun z => c (decide_eq_true z))] at k
          walk_at "rd"
          dsimp only at k
          refine ite2 (fun _ => ?_) (fun c => absurd c (by simp))
          walk_at "rd"
          refine ite2 (fun c => ?_) (fun c => ?_)
          · rw [if_pos (of_decide_eq_true c)] at k
            walk_at "rd"
            exact k _ (Ex.refl _)
          · rw [if_neg (fun z => c (decide_eq_true z))] at k
            walk_at "rd"
            intro p hp
            exact k p _ (Ex.new hp) upd_same
abbrev s_cut_to_numbers : Stmt := top 34
theorem sc_cut_to_numbers : FnScope ["stretch", "low", "high", "one", "other"] ["stretch", "low", "high"] (defScope s_cut_to_numbers) := ⟨rfl, rfl, rfl, by decide +kernel, rfl, by decide +kernel, by decide +kernel⟩
theorem ok_cutN {f : Addr} {fd : FuncData} (F : Fun K "cut_to_numbers" "cut_to_numbers" s_cut_to_numbers f fd) (m_max : mg "max" = none) (m_min : mg "min" = none) (h_signal_of : Has P w K mg base 1 "signal_of" spSig)
    (h_cut_to_signals : Has P w K mg base 1 "cut_to_signals" spCutS) : FnOk P w K mg base CX0 2 f fd ["stretch", "low", "high"] spCutN := by
  refine F.ok sc_cut_to_numbers (fun vs H Q E h => ?_) (fun cdv A outer s H vs Q E hr h => ?_)
  · obtain ⟨v, s, l, h', rfl, _⟩ := h
    rfl
  · obtain ⟨v, s, low, high, rfl, hT, hw, k⟩ := h
    refine ⟨_, (pss_cons (ps_set (i := 3) sc_cut_to_numbers.nd rfl (Or.inl rfl) (pe_hs h_signal_of hr rfl (pa_cons (pv 0) (pa_cons (pv 1) pa_nil))))
  (pss_cons (ps_set (i := 4) sc_cut_to_numbers.nd rfl (Or.inl rfl) (pe_hs h_signal_of hr rfl (pa_cons (pv 0) (pa_cons (pv 2) pa_nil))))
  (pss_one (ps_ret (pe_hs h_cut_to_signals hr rfl (pa_cons (pv 0) (pa_cons (pe_callB (call_minQ rfl) rfl m_min boot_min (pa_cons (pv 3) (pa_cons (pv 4) pa_nil))) (pa_cons (pe_callB (call_maxQ rfl) rfl m_max boot_max (pa_cons (pv 3) (pa_cons (pv 4) pa_nil))) pa_nil)))))))), ?_⟩
    walk_at "rd"
    refine ⟨v, s, low, rfl, hT, hw, fun H1 e1 => ?_⟩
    walk_at "rd"
    refine ⟨v, s, high, rfl, hT.ex e1, hw, fun H2 e2 => ?_⟩
    walk_at "rd"
    refine ⟨v, s, _, some _, rfl, hT.ex (e1.trans e2), hw, ?_⟩
    unfold cutN at k
    exact back_ex (e1.trans e2) k
end
end Kx

set_option Elab.async false
set_option linter.all false
set_option maxRecDepth 100000
set_option maxHeartbeats 2000000

namespace Kx
open PySem PySem.Spec PyProof.Rows L2 HX
open Evl (Ex)
local macro_rules | `(tactic| walk_at "side") => `(tactic| first | assumption | ((try dsimp only); first | assumption | decide +kernel | omega | exact ⟨by decide, by decide⟩ | (left; decide) | (left; omega) | (refine Or.inl ⟨?_, ?_⟩ <;> omega) | (refine Or.inr ⟨?_, ?_⟩ <;> omega)))
local macro_rules | `(tactic| walk_at "heap") => `(tactic| first | assumption | exact upd_same | exact Or.inl (by assumption) | exact Or.inl upd_same)
local macro_rules | `(tactic| walk_at "item") => `(tactic| first | exact rfl | exact atI_nat (j := 0) rfl | exact atI_nat (j := 1) rfl | exact atI_nat (j := 2) rfl | assumption)
local macro_rules | `(tactic| walk_at "rd") => `(tactic| repeat (first
  | ((with_reducible refine' go_var ?hv ?_); (case hv => exact rfl))
  | with_reducible refine' go_c ?_
  | with_reducible refine' go_op ?_
  | with_reducible refine' go_seq ?_
  | with_reducible refine' go_asg ?_
  | with_reducible refine' go_name ?_
  | with_reducible refine' go_cons ?_
  | with_reducible refine' go_nil ?_
  | with_reducible refine' go_cb ?_
  | with_reducible refine' go_call ?_
  | with_reducible refine' go_ifS ?_
  | with_reducible refine' go_test ?_
  | with_reducible refine' go_bl ?_
  | with_reducible refine' go_ret ?_
  | with_reducible refine' go_I0 ?_
  | ((with_reducible refine' go_I ?cc ?_); (case cc => walk_at "side"))
  | ((with_reducible refine' go_ixL ?hh ?hk ?_); (case hh => walk_at "heap"); (case hk => walk_at "item"))
  | ((with_reducible refine' go_ixT ?hh ?hk ?_); (case hh => walk_at "heap"); (case hk => walk_at "item"))
  | ((with_reducible refine' go_lenL ?hh ?_); (case hh => walk_at "heap"))
  | ((with_reducible refine' go_lenT ?hh ?_); (case hh => walk_at "heap"))
  | ((with_reducible refine' go_setL ?hh ?hk ?_); (case hh => walk_at "heap"); (case hk => walk_at "item"))
  | with_reducible refine' go_abs ?_
  | with_reducible refine' go_max ?_
  | with_reducible refine' go_min ?_
  | with_reducible refine' go_int ?_
  | with_reducible refine' go_intB ?_
  | (with_reducible refine' go_eq rfl ?_)
  | (with_reducible refine' go_ne rfl ?_)
  | with_reducible refine' go_isN ?_
  | with_reducible refine' go_notN ?_
  | with_reducible refine' go_if ?_
  | with_reducible refine' go_sub ?_
  | with_reducible refine' go_par ?_
  | with_reducible refine' go_sl ?_
  | with_reducible refine' go_part ?_
  | with_reducible refine' go_pint ?_
  | with_reducible refine' go_nopart ?_
  | ((with_reducible refine' go_lenL ?hh ?_); (case hh => walk_at "heap"))
  | ((with_reducible refine' go_lenT ?hh ?_); (case hh => walk_at "heap"))
  | ((with_reducible refine' go_lenS ?hh ?_); (case hh => assumption))
  | with_reducible refine' go_gcons ?_
  | with_reducible refine' go_gnil ?_
  | with_reducible refine' go_kw ?_
  | with_reducible refine' go_par2 ?_
  | with_reducible refine' go_next ?_
  | with_reducible refine' go_drop ?_
  | with_reducible refine' go_and ?_
  | with_reducible refine' go_or ?_
  | with_reducible refine' go_not ?_
  | with_reducible refine' go_B ?_
  | with_reducible refine' go_andV ?_
  | with_reducible refine' go_orV ?_
  | with_reducible refine' go_notV ?_
  | with_reducible refine' go_chain ?_
  | with_reducible refine' go_un ?_
  | with_reducible refine' go_U ?_
  | with_reducible refine' go_bm ?_
  | with_reducible refine' go_tup ?_
  | with_reducible refine' go_lst ?_
  | with_reducible refine' go_forR1 ?_
  | with_reducible refine' go_forR2 ?_
  | with_reducible refine' go_forL ?_
  | with_reducible refine' go_forT ?_
  | with_reducible refine' go_forE ?_
  | with_reducible refine' go_lcR1 ?_
  | with_reducible refine' go_lcL ?_
  | with_reducible refine' go_lcT ?_
  | ((with_reducible refine' go_tyL ?hh ?_); (case hh => walk_at "heap"))
  | ((with_reducible refine' go_new ?hz ?_); (case hz => exact Nat.le_of_ble_eq_true rfl))
  | (with_reducible refine' ⟨_, rfl, ?_⟩)
  ))
--MACEND
/-- a list's values are these stretches -/
structure Txs (H : Hp) (xs : List V) (ss : List Sx) : Prop where
  len : xs.length = ss.length
  get : ∀ (i : Nat) (v : V), xs[i]? = some v → ∃ s, ss[i]? = some s ∧ Tx H v s
theorem Txs.ex {H H' : Hp} {xs : List V} {ss : List Sx} (e : Ex H H') (t : Txs H xs ss) : Txs H' xs ss := ⟨t.len, fun i v h => let ⟨s, h1, h2⟩ := t.get i v h; ⟨s, h1, h2.ex e⟩⟩
theorem Tx.mut {H : Hp} {v : V} {s : Sx} {l : Addr} {ys : List V} {o : HO} (hl : H l = some (.lst ys)) : Tx H v s → Tx (upd H l o) v s := fun ⟨a, h1, h2⟩ =>
  ⟨a, h1, by rw [upd_ne fun z => by rw [z, hl] at h2; cases h2]; exact h2⟩
theorem Txs.mut {H : Hp} {xs : List V} {ss : List Sx} {l : Addr} {ys : List V} {o : HO} (hl : H l = some (.lst ys)) (t : Txs H xs ss) : Txs (upd H l o) xs ss := ⟨t.len, fun i v h => let ⟨s, h1, h2⟩ := t.get i v h; ⟨s, h1, h2.mut hl⟩⟩
theorem Txs.nil {H : Hp} : Txs H [] [] := ⟨rfl, fun i v h => by simp at h⟩
theorem Txs.snoc {H : Hp} {xs : List V} {ss : List Sx} {v : V} {s : Sx} (t : Txs H xs ss) (h : Tx H v s) : Txs H (xs ++ [v]) (ss ++ [s]) := by
  refine ⟨by simp [t.len], fun i u hu => ?_⟩
  by_cases hi : i < xs.length
  · rw [List.getElem?_append_left hi] at hu
    obtain ⟨s', h1, h2⟩ := t.get i u hu
    exact ⟨s', by rw [List.getElem?_append_left (by rw [← t.len]; exact hi)]; exact h1, h2⟩
  · rw [List.getElem?_append_right (by omega)] at hu
    have hz : i - xs.length = 0 := by
      cases q : i - xs.length with
      | zero => rfl
      | succ n => rw [q] at hu; simp at hu
    rw [hz] at hu
    cases hu
    exact ⟨s, by rw [List.getElem?_append_right (by rw [← t.len]; omega), ← t.len, hz]; rfl, h⟩
@[reducible] def absI (i : Int) : Int := if i < 0 then -i else i
def mixS (c : Int) (s : Sx) : List Sx :=
  if sigOf s c ≤ s.lo then [⟨s.lo, s.hi, absI (s.num - c), 1⟩]
  else match s.hi with
    | some g => if sigOf s c ≥ g then [⟨s.lo, some g, absI (s.num - c), -1⟩] else [⟨s.lo, some (sigOf s c), absI (s.num - c), -1⟩, ⟨sigOf s c, some g, 0, 1⟩]
    | none => [⟨s.lo, some (sigOf s c), absI (s.num - c), -1⟩, ⟨sigOf s c, none, 0, 1⟩]
theorem mixS_len (c : Int) (s : Sx) : (mixS c s).length ≤ 2 := by
  unfold mixS
  split
  · simp
  · split
    · split <;> simp
    · simp
def behindMixer (c : Int) (ss : List Sx) : List Sx := ss.flatMap (mixS c)
theorem mixer_len (c : Int) : ∀ ss : List Sx, (behindMixer c ss).length ≤ 2 * ss.length
  | [] => by simp [behindMixer]
  | s :: ss => by
    have h1 := mixer_len c ss
    have h2 := mixS_len c s
    simp only [behindMixer, List.flatMap_cons, List.length_append, List.length_cons] at h1 ⊢
    omega
theorem mixer_take (c : Int) {ss : List Sx} {i : Nat} {s : Sx} (h : ss[i]? = some s) : behindMixer c (ss.take (i + 1)) = behindMixer c (ss.take i) ++ mixS c s := by
  rw [List.take_succ, h]
  simp [behindMixer]
/-- a list of stretches at p -/
def Lx (H : Hp) (p : Addr) (ss : List Sx) : Prop := ∃ xs, H p = some (.lst xs) ∧ Txs H xs ss
def spMixL : Sp := fun vs H Q _ => ∃ p c ss, vs = [.ref p, .int c] ∧ Lx H p ss ∧ (∀ s ∈ ss, Wy s) ∧ ss.length ≤ 100000 ∧ ∀ q H', Ex H H' → Lx H' q (behindMixer c ss) → Q (.ref q) H'
section
variable {P : Program} {w : World} {K : PySem.W.Frag} {mg : Str → Option Value} {base : Heap}
abbrev s__behind_mixer : Stmt := top 36
theorem sc__behind_mixer : FnScope ["stretches", "center", "mixed", "stretch", "least", "greatest", "number", "_", "turn", "distance"] ["stretches", "center"] (defScope s__behind_mixer) := ⟨rfl, rfl, rfl, by decide +kernel, rfl, by decide +kernel, by decide +kernel⟩
theorem ok_mixer {f : Addr} {fd : FuncData} (F : Fun K "_behind_mixer" "_behind_mixer" s__behind_mixer f fd) (m_abs : mg "abs" = none) (h_signal_of : Has P w K mg base 1 "signal_of" spSig) : FnOk P w K mg base CX0 2 f fd ["stretches", "center"] spMixL := by
  refine F.ok sc__behind_mixer (fun vs H Q E h => ?_) (fun cdv A outer s H vs Q E hr h => ?_)
  · obtain ⟨p, c, ss, rfl, _⟩ := h
    rfl
  · obtain ⟨p, c, ss, rfl, ⟨xs, hp, hT⟩, hw, hn, k⟩ := h
    refine ⟨_, (pss_cons (ps_set (i := 2) sc__behind_mixer.nd rfl (Or.inl rfl) (pe_lst pa_nil))
  (pss_cons (ps_for PassesOwn.never rfl (pi_list (pv 0)) (pg_name (i := 3) sc__behind_mixer.nd rfl (Or.inl rfl))
  (pss_cons (ps_asg (pv 3) (pg_tup (by rfl) (pgs_cons (pg_name (i := 4) sc__behind_mixer.nd rfl (Or.inl rfl)) (pgs_cons (pg_name (i := 5) sc__behind_mixer.nd rfl (Or.inl rfl)) (pgs_cons (pg_name (i := 6) sc__behind_mixer.nd rfl (Or.inl rfl)) (pgs_cons (pg_name (i := 7) sc__behind_mixer.nd rfl (Or.inl rfl)) pgs_nil))))))
  (pss_cons (ps_set (i := 8) sc__behind_mixer.nd rfl (Or.inl rfl) (pe_hs h_signal_of hr rfl (pa_cons (pv 3) (pa_cons (pv 1) pa_nil))))
  (pss_cons (ps_set (i := 9) sc__behind_mixer.nd rfl (Or.inl rfl) (pe_callB call_absQ rfl m_abs (by decide +kernel) (pa_cons (pe_op op_sub (pv 6) (pv 1)) pa_nil)))
  (pss_one (ps_if (pt_cmpR op_le (pv 8) (pv 4) (nomark _))
  (pss_one (ps_expr (pe_bm PySem.F.plainAttrs_list PySem.F.slot_list_append PySem.F.type_list_append mt_append (pv 2) (pa_cons (pe_tup (pa_cons (pv 4) (pa_cons (pv 5) (pa_cons (pv 9) (pa_cons pe_int pa_nil))))) pa_nil))))
  (pss_one (ps_if (PW.pt (pw_and (pt_cmpR op_notN1 (pv 5) pe_non (nomark _)) (pw_and1 (pt_cmpR op_ge (pv 8) (pv 5) (nomark _)))))
  (pss_one (ps_expr (pe_bm PySem.F.plainAttrs_list PySem.F.slot_list_append PySem.F.type_list_append mt_append (pv 2) (pa_cons (pe_tup (pa_cons (pv 4) (pa_cons (pv 5) (pa_cons (pv 9) (pa_cons (pe_un un_neg pe_int) pa_nil))))) pa_nil))))
  (pss_cons (ps_expr (pe_bm PySem.F.plainAttrs_list PySem.F.slot_list_append PySem.F.type_list_append mt_append (pv 2) (pa_cons (pe_tup (pa_cons (pv 4) (pa_cons (pv 8) (pa_cons (pv 9) (pa_cons (pe_un un_neg pe_int) pa_nil))))) pa_nil)))
  (pss_one (ps_expr (pe_bm PySem.F.plainAttrs_list PySem.F.slot_list_append PySem.F.type_list_append mt_append (pv 2) (pa_cons (pe_tup (pa_cons (pv 8) (pa_cons (pv 5) (pa_cons pe_int (pa_cons pe_int pa_nil))))) pa_nil)))))))))))))
  (pss_one (ps_ret (pv 2))))), ?_⟩
    walk_at "rd"
    intro l hl
    have e0 := Ex.new (o := HO.lst []) hl
    walk_at "rd"
    refine ⟨⟨xs, .inl (.inl (e0 _ _ hp))⟩, ?_⟩
    refine run_forL xs (fun i σ G => ∃ (ys : List V) (v3 v4 v5 v6 v7 v8 v9 : Option V), σ = [some (.ref p), some (.int c), some (.ref l), v3, v4, v5, v6, v7, v8, v9] ∧ Ex H G ∧ G l = some (.lst ys) ∧ Txs G ys (behindMixer c (ss.take i))) ?_ ?_ ?_ ?_
    · exact ⟨[], _, _, _, _, _, _, _, rfl, e0, upd_same, Txs.nil⟩
    · rintro i σ G _ ⟨_, _, _, _, _, _, _, _, rfl, e, _⟩
      exact .inl (.inl (e _ _ hp))
    · rintro i v σ G hi ⟨ys, v3, v4, v5, v6, v7, v8, v9, rfl, e, hG, hY⟩
      obtain ⟨sx, hs, hv⟩ := hT.get i v hi
      have hws := hw sx (List.mem_of_getElem? hs)
      have hlen : ys.length ≤ 200000 := by
        rw [hY.len]
        have h1 := mixer_len c (ss.take i)
        rw [List.length_take] at h1
        omega
      obtain ⟨a, rfl, ha⟩ := hv
      have ha' := e _ _ ha
      walk_at "rd"
      refine go_gtup (.inl (.inl ha')) rfl ?_
      walk_at "rd"
      refine ⟨.ref a, sx, c, rfl, ⟨a, rfl, ha'⟩, hws, fun G1 e1 => ?_⟩
      have hG1 := e1 _ _ hG
      have hY1 := hY.ex e1
      walk_at "rd"
      have E1 := e.trans e1
      have big : ∀ n : Nat, n ≤ 200001 → n < sizeLine := fun n h => Nat.lt_of_le_of_lt h (by rw [sizeLine_eq]; decide)
      rw [mixer_take c hs]
      refine ite2 (fun d => ?_) (fun d => ?_)
      · have hm : mixS c sx = [⟨sx.lo, sx.hi, absI (sx.num - c), 1⟩] := by
          unfold mixS
          rw [if_pos (of_decide_eq_true d)]
        rw [hm]
        walk_at "rd"
        intro p1 hp1
        have x1 := Ex.new (o := HO.tup [.int sx.lo, optV sx.hi, .int (absI (sx.num - c)), .int 1]) hp1
        walk_at "rd"
        refine go_app (x1 _ _ hG1) (big _ (by omega)) ?_
        exact ⟨_, _, _, _, _, _, _, _, rfl, Ex.mut (E1.trans x1) hl, upd_same, (((hY1.ex x1).snoc ⟨p1, rfl, upd_same⟩).mut (x1 _ _ hG1))⟩
      · have d' : ¬ sigOf sx c ≤ sx.lo := fun z => d (decide_eq_true z)
        walk_at "rd"
        cases hh : sx.hi with
        | none =>
          have hm : mixS c sx = [⟨sx.lo, some (sigOf sx c), absI (sx.num - c), -1⟩, ⟨sigOf sx c, none, 0, 1⟩] := by
            unfold mixS
            rw [if_neg d', hh]
          rw [hm]
          refine ite2 (fun q => absurd q (by simp [optV])) (fun _ => ?_)
          refine iteF ?_
          walk_at "rd"
          intro p1 hp1
          have x1 := Ex.new (o := HO.tup [.int sx.lo, .int (sigOf sx c), .int (absI (sx.num - c)), .int (-1)]) hp1
          walk_at "rd"
          refine go_app (x1 _ _ hG1) (big _ (by omega)) ?_
          have t1 := ((hY1.ex x1).snoc (s := ⟨sx.lo, some (sigOf sx c), absI (sx.num - c), -1⟩) ⟨p1, rfl, upd_same⟩).mut (o := .lst (ys ++ [.ref p1])) (x1 _ _ hG1)
          have E2 := Ex.mut (E1.trans x1) hl (o := .lst (ys ++ [.ref p1]))
          have hl2 := upd_same (H := upd G1 p1 (HO.tup [.int sx.lo, .int (sigOf sx c), .int (absI (sx.num - c)), .int (-1)])) (a := l) (o := HO.lst (ys ++ [.ref p1]))
          generalize upd (upd G1 p1 (HO.tup [.int sx.lo, .int (sigOf sx c), .int (absI (sx.num - c)), .int (-1)])) l (HO.lst (ys ++ [.ref p1])) = G2 at *
          walk_at "rd"
          intro p2 hp2
          have x2 := Ex.new (o := HO.tup [.int (sigOf sx c), optV none, .int 0, .int 1]) hp2
          walk_at "rd"
          refine go_app (x2 _ _ hl2) (big _ (by rw [List.length_append]; simp only [List.length_cons, List.length_nil]; omega)) ?_
          have t2 := ((t1.ex x2).snoc (s := ⟨sigOf sx c, none, 0, 1⟩) ⟨p2, rfl, upd_same⟩).mut (o := .lst (ys ++ [.ref p1] ++ [.ref p2])) (x2 _ _ hl2)
          rw [List.append_assoc (behindMixer c (ss.take i))] at t2
          exact ⟨_, _, _, _, _, _, _, _, rfl, Ex.mut (E2.trans x2) hl, upd_same, t2⟩
        | some g =>
          refine ite2 (fun _ => ?_) (fun q => absurd q (by simp [optV]))
          walk_at "rd"
          rw [show optV (some g) = V.int g from rfl]
          walk_at "rd"
          refine ite2 (fun q => ?_) (fun q => ?_)
          · have hm : mixS c sx = [⟨sx.lo, some g, absI (sx.num - c), -1⟩] := by
              unfold mixS
              rw [if_neg d', hh]
              exact if_pos (of_decide_eq_true q)
            rw [hm]
            walk_at "rd"
            intro p1 hp1
            have x1 := Ex.new (o := HO.tup [.int sx.lo, .int g, .int (absI (sx.num - c)), .int (-1)]) hp1
            walk_at "rd"
            refine go_app (x1 _ _ hG1) (big _ (by omega)) ?_
            exact ⟨_, _, _, _, _, _, _, _, rfl, Ex.mut (E1.trans x1) hl, upd_same, (((hY1.ex x1).snoc ⟨p1, rfl, upd_same⟩).mut (x1 _ _ hG1))⟩
          · have hm : mixS c sx = [⟨sx.lo, some (sigOf sx c), absI (sx.num - c), -1⟩, ⟨sigOf sx c, some g, 0, 1⟩] := by
              unfold mixS
              rw [if_neg d', hh]
              exact if_neg (fun z => q (decide_eq_true z))
            rw [hm]
            walk_at "rd"
            intro p1 hp1
            have x1 := Ex.new (o := HO.tup [.int sx.lo, .int (sigOf sx c), .int (absI (sx.num - c)), .int (-1)]) hp1
            walk_at "rd"
            refine go_app (x1 _ _ hG1) (big _ (by omega)) ?_
            have t1 := ((hY1.ex x1).snoc (s := ⟨sx.lo, some (sigOf sx c), absI (sx.num - c), -1⟩) ⟨p1, rfl, upd_same⟩).mut (o := .lst (ys ++ [.ref p1])) (x1 _ _ hG1)
            have E2 := Ex.mut (E1.trans x1) hl (o := .lst (ys ++ [.ref p1]))
            have hl2 := upd_same (H := upd G1 p1 (HO.tup [.int sx.lo, .int (sigOf sx c), .int (absI (sx.num - c)), .int (-1)])) (a := l) (o := HO.lst (ys ++ [.ref p1]))
            generalize upd (upd G1 p1 (HO.tup [.int sx.lo, .int (sigOf sx c), .int (absI (sx.num - c)), .int (-1)])) l (HO.lst (ys ++ [.ref p1])) = G2 at *
            walk_at "rd"
            intro p2 hp2
            have x2 := Ex.new (o := HO.tup [.int (sigOf sx c), .int g, .int 0, .int 1]) hp2
            walk_at "rd"
            refine go_app (x2 _ _ hl2) (big _ (by rw [List.length_append]; simp only [List.length_cons, List.length_nil]; omega)) ?_
            have t2 := ((t1.ex x2).snoc (s := ⟨sigOf sx c, some g, 0, 1⟩) ⟨p2, rfl, upd_same⟩).mut (o := .lst (ys ++ [.ref p1] ++ [.ref p2])) (x2 _ _ hl2)
            rw [List.append_assoc (behindMixer c (ss.take i))] at t2
            exact ⟨_, _, _, _, _, _, _, _, rfl, Ex.mut (E2.trans x2) hl, upd_same, t2⟩
    · rintro σ G ⟨ys, _, _, _, _, _, _, _, rfl, e, hG, hY⟩
      walk_at "rd"
      refine k l G e ⟨ys, hG, ?_⟩
      rw [hT.len, List.take_length] at hY
      exact hY
end
end Kx

set_option Elab.async false
set_option linter.all false
set_option maxRecDepth 100000
set_option maxHeartbeats 2000000

namespace Kx
open PySem PySem.Spec PyProof.Rows L2 HX
open Evl (Ex)
local macro_rules | `(tactic| walk_at "side") => `(tactic| first | assumption | ((try dsimp only); first | assumption | decide +kernel | omega | exact ⟨by decide, by decide⟩ | (left; decide) | (left; omega) | (refine Or.inl ⟨?_, ?_⟩ <;> omega) | (refine Or.inr ⟨?_, ?_⟩ <;> omega)))
local macro_rules | `(tactic| walk_at "heap") => `(tactic| first | assumption | exact upd_same | exact Or.inl (by assumption) | exact Or.inl upd_same)
local macro_rules | `(tactic| walk_at "item") => `(tactic| first | exact rfl | exact atI_nat (j := 0) rfl | exact atI_nat (j := 1) rfl | exact atI_nat (j := 2) rfl | assumption)
local macro_rules | `(tactic| walk_at "rd") => `(tactic| repeat (first
  | ((with_reducible refine' go_var ?hv ?_); (case hv => exact rfl))
  | with_reducible refine' go_c ?_
  | with_reducible refine' go_op ?_
  | with_reducible refine' go_seq ?_
  | with_reducible refine' go_asg ?_
  | with_reducible refine' go_name ?_
  | with_reducible refine' go_cons ?_
  | with_reducible refine' go_nil ?_
  | with_reducible refine' go_cb ?_
  | with_reducible refine' go_call ?_
  | with_reducible refine' go_ifS ?_
  | with_reducible refine' go_test ?_
  | with_reducible refine' go_bl ?_
  | with_reducible refine' go_ret ?_
  | with_reducible refine' go_I0 ?_
  | ((with_reducible refine' go_I ?cc ?_); (case cc => walk_at "side"))
  | ((with_reducible refine' go_ixL ?hh ?hk ?_); (case hh => walk_at "heap"); (case hk => walk_at "item"))
  | ((with_reducible refine' go_ixT ?hh ?hk ?_); (case hh => walk_at "heap"); (case hk => walk_at "item"))
  | ((with_reducible refine' go_lenL ?hh ?_); (case hh => walk_at "heap"))
  | ((with_reducible refine' go_lenT ?hh ?_); (case hh => walk_at "heap"))
  | ((with_reducible refine' go_setL ?hh ?hk ?_); (case hh => walk_at "heap"); (case hk => walk_at "item"))
  | with_reducible refine' go_abs ?_
  | with_reducible refine' go_max ?_
  | with_reducible refine' go_min ?_
  | with_reducible refine' go_int ?_
  | with_reducible refine' go_intB ?_
  | (with_reducible refine' go_eq rfl ?_)
  | (with_reducible refine' go_ne rfl ?_)
  | with_reducible refine' go_isN ?_
  | with_reducible refine' go_notN ?_
  | with_reducible refine' go_if ?_
  | with_reducible refine' go_sub ?_
  | with_reducible refine' go_par ?_
  | with_reducible refine' go_sl ?_
  | with_reducible refine' go_part ?_
  | with_reducible refine' go_pint ?_
  | with_reducible refine' go_nopart ?_
  | ((with_reducible refine' go_lenL ?hh ?_); (case hh => walk_at "heap"))
  | ((with_reducible refine' go_lenT ?hh ?_); (case hh => walk_at "heap"))
  | ((with_reducible refine' go_lenS ?hh ?_); (case hh => assumption))
  | with_reducible refine' go_gcons ?_
  | with_reducible refine' go_gnil ?_
  | with_reducible refine' go_kw ?_
  | with_reducible refine' go_par2 ?_
  | with_reducible refine' go_next ?_
  | with_reducible refine' go_drop ?_
  | with_reducible refine' go_and ?_
  | with_reducible refine' go_or ?_
  | with_reducible refine' go_not ?_
  | with_reducible refine' go_B ?_
  | with_reducible refine' go_andV ?_
  | with_reducible refine' go_orV ?_
  | with_reducible refine' go_notV ?_
  | with_reducible refine' go_chain ?_
  | with_reducible refine' go_un ?_
  | with_reducible refine' go_U ?_
  | with_reducible refine' go_bm ?_
  | with_reducible refine' go_tup ?_
  | with_reducible refine' go_lst ?_
  | with_reducible refine' go_forR1 ?_
  | with_reducible refine' go_forR2 ?_
  | with_reducible refine' go_forL ?_
  | with_reducible refine' go_forT ?_
  | with_reducible refine' go_forE ?_
  | with_reducible refine' go_lcR1 ?_
  | with_reducible refine' go_lcL ?_
  | with_reducible refine' go_lcT ?_
  | ((with_reducible refine' go_tyL ?hh ?_); (case hh => walk_at "heap"))
  | ((with_reducible refine' go_new ?hz ?_); (case hz => exact Nat.le_of_ble_eq_true rfl))
  | (with_reducible refine' ⟨_, rfl, ?_⟩)
  ))
--MACEND
/-- where a pass leaves only the turn of two stretches, both leave the same signal -/
def again (acc : List Sx) (p : Sx) : Bool := decide (p.hi = some p.lo) && (match acc.getLast? with | none => false | some t => decide (t.hi = some p.lo))
def passStep (low high : Int) (acc : List Sx) (s : Sx) : List Sx := match cutN s low high with
  | none => acc
  | some p => if again acc p then acc else acc ++ [p]
def behindPass (low high : Int) (ss : List Sx) : List Sx := ss.foldl (passStep low high) []
theorem pass_take (low high : Int) {ss : List Sx} {i : Nat} {s : Sx} (h : ss[i]? = some s) : behindPass low high (ss.take (i + 1)) = passStep low high (behindPass low high (ss.take i)) s := by
  rw [List.take_succ, h]
  simp [behindPass]
theorem pass_len (low high : Int) (ss : List Sx) : (behindPass low high ss).length ≤ ss.length := by
  have key : ∀ (ss acc : List Sx), (ss.foldl (passStep low high) acc).length ≤ acc.length + ss.length := by
    intro ss
    induction ss with
    | nil => intro acc; simp
    | cons s ss ih =>
      intro acc
      have h1 : (passStep low high acc s).length ≤ acc.length + 1 := by
        unfold passStep
        split
        · omega
        · split <;> simp
      have h2 := ih (passStep low high acc s)
      simp only [List.foldl_cons, List.length_cons]
      omega
  have := key ss []
  unfold behindPass
  simpa using this
def spPassL : Sp := fun vs H Q _ => ∃ p low high ss, vs = [.ref p, .int low, .int high] ∧ Lx H p ss ∧ (∀ s ∈ ss, Wy s) ∧ ss.length ≤ 100000 ∧ ∀ q H', Ex H H' → Lx H' q (behindPass low high ss) → Q (.ref q) H'
theorem eq_optL (i : Int) (o : Option Int) : decide (V.int i = optV o) = decide (o = some i) := by
  cases o with
  | none => simp [optV]
  | some j => simp [optV, eq_comm]
theorem eq_optR (i : Int) (o : Option Int) : decide (optV o = V.int i) = decide (o = some i) := by
  cases o with
  | none => simp [optV]
  | some j => simp [optV]
section
variable {P : Program} {w : World} {K : PySem.W.Frag} {mg : Str → Option Value} {base : Heap}
abbrev s__behind_pass : Stmt := top 35
theorem sc__behind_pass : FnScope ["stretches", "low", "high", "passed", "stretch", "part"] ["stretches", "low", "high"] (defScope s__behind_pass) := ⟨rfl, rfl, rfl, by decide +kernel, rfl, by decide +kernel, by decide +kernel⟩
theorem ok_pass {f : Addr} {fd : FuncData} (F : Fun K "_behind_pass" "_behind_pass" s__behind_pass f fd) (h_cut_to_numbers : Has P w K mg base 2 "cut_to_numbers" spCutN) : FnOk P w K mg base CX0 3 f fd ["stretches", "low", "high"] spPassL := by
  refine F.ok sc__behind_pass (fun vs H Q E h => ?_) (fun cdv A outer s H vs Q E hr h => ?_)
  · obtain ⟨p, c, d, ss, rfl, _⟩ := h
    rfl
  · obtain ⟨p, low, high, ss, rfl, ⟨xs, hp, hT⟩, hw, hn, k⟩ := h
    refine ⟨_, (pss_cons (ps_set (i := 3) sc__behind_pass.nd rfl (Or.inl rfl) (pe_lst pa_nil))
  (pss_cons (ps_for PassesOwn.never rfl (pi_list (pv 0)) (pg_name (i := 4) sc__behind_pass.nd rfl (Or.inl rfl))
  (pss_cons (ps_set (i := 5) sc__behind_pass.nd rfl (Or.inl rfl) (pe_hs h_cut_to_numbers hr rfl (pa_cons (pv 4) (pa_cons (pv 1) (pa_cons (pv 2) pa_nil)))))
  (pss_cons (ps_if (pt_cmpR op_isN1 (pv 5) pe_non (nomark _))
  (pss_one ps_continue)
  pss_nil)
  (pss_cons (ps_if (PW.pt (pw_and (pt_cmpR op_eq (pe_ix ix_tup (pv 5) pe_int (fun _ _ => rfl)) (pe_ix ix_tup (pv 5) pe_int (fun _ _ => rfl)) (nomark _)) (pw_and (pt_truth (pv 3) (by intro _; rfl)) (pw_and1 (pt_cmpR op_eq (pe_ix ix_tup (pe_ix ix_list (pv 3) (pe_un un_neg pe_int) (fun _ _ => rfl)) pe_int (fun _ _ => rfl)) (pe_ix ix_tup (pv 5) pe_int (fun _ _ => rfl)) (nomark _))))))
  (pss_one ps_continue)
  pss_nil)
  (pss_one (ps_expr (pe_bm PySem.F.plainAttrs_list PySem.F.slot_list_append PySem.F.type_list_append mt_append (pv 3) (pa_cons (pv 5) pa_nil))))))))
  (pss_one (ps_ret (pv 3))))), ?_⟩
    walk_at "rd"
    intro l hl
    have e0 := Ex.new (o := HO.lst []) hl
    walk_at "rd"
    refine ⟨⟨xs, .inl (.inl (e0 _ _ hp))⟩, ?_⟩
    refine run_forL xs (fun i σ G => ∃ (ys : List V) (v4 v5 : Option V), σ = [some (.ref p), some (.int low), some (.int high), some (.ref l), v4, v5] ∧ Ex H G ∧ G l = some (.lst ys) ∧ Txs G ys (behindPass low high (ss.take i))) ?_ ?_ ?_ ?_
    · exact ⟨[], _, _, rfl, e0, upd_same, Txs.nil⟩
    · rintro i σ G _ ⟨_, _, _, rfl, e, _⟩
      exact .inl (.inl (e _ _ hp))
    · rintro i v σ G hi ⟨ys, v4, v5, rfl, e, hG, hY⟩
      obtain ⟨sx, hs, hv⟩ := hT.get i v hi
      have hws := hw sx (List.mem_of_getElem? hs)
      have hlen : ys.length ≤ 100000 := by
        rw [hY.len]
        have h1 := pass_len low high (ss.take i)
        rw [List.length_take] at h1
        omega
      rw [pass_take low high hs]
      walk_at "rd"
      refine ⟨v, sx, low, high, rfl, hv.ex e, hws, ?_⟩
      unfold passStep
      cases hc : cutN sx low high with
      | none =>
        intro G1 e1
        walk_at "rd"
        refine ite2 (fun _ => ?_) (fun c => absurd (decide_eq_true rfl) c)
        exact ⟨ys, _, _, rfl, e.trans e1, e1 _ _ hG, hY.ex e1⟩
      | some q =>
        intro pq G1 e1 hq
        have hG1 := e1 _ _ hG
        have hY1 := hY.ex e1
        walk_at "rd"
        refine ite2 (fun c => absurd c (by simp)) (fun _ => ?_)
        walk_at "rd"
        refine go_eq (by cases q.hi <;> rfl) ?_
        rw [eq_optL]
        walk_at "rd"
        have big : ys.length < sizeLine := Nat.lt_of_le_of_lt hlen (by rw [sizeLine_eq]; decide)
        have add : again (behindPass low high (ss.take i)) q = false → ∃ (ys' : List V) (v4' v5' : Option V), [some (V.ref p), some (.int low), some (.int high), some (.ref l), some v, some (.ref pq)] = [some (.ref p), some (.int low), some (.int high), some (.ref l), v4', v5'] ∧
            Ex H (upd G1 l (.lst (ys ++ [.ref pq]))) ∧ upd G1 l (.lst (ys ++ [.ref pq])) l = some (.lst ys') ∧ Txs (upd G1 l (.lst (ys ++ [.ref pq]))) ys' (if again (behindPass low high (ss.take i)) q then behindPass low high (ss.take i) else behindPass low high (ss.take i) ++ [q]) := fun hf => by
          rw [hf]
          exact ⟨_, _, _, rfl, Ex.mut (e.trans e1) hl, upd_same, (hY1.snoc ⟨pq, rfl, hq⟩).mut hG1⟩
        refine ite2 (fun c1 => ?_) (fun c1 => ?_)
        · walk_at "rd"
          refine ⟨!ys.isEmpty, .inl ⟨ys, .inl (.inl hG1), rfl⟩, ?_⟩
          rcases List.eq_nil_or_concat ys with hz | ⟨ys', u, hz⟩
          · subst hz
            refine ite2 (fun c => absurd c (by simp)) (fun _ => ?_)
            refine iteF ?_
            walk_at "rd"
            refine go_app hG1 big ?_
            refine add ?_
            have h0 : behindPass low high (ss.take i) = [] := List.length_eq_zero_iff.mp (by rw [← hY1.len]; rfl)
            unfold again
            rw [h0]
            simp
          · rw [List.concat_eq_append] at hz
            subst hz
            refine ite2 (fun _ => ?_) (fun c => absurd (by simp) c)
            obtain ⟨t, ht, ⟨a, rfl, ha⟩⟩ := hY1.get ys'.length u (by simp)
            have hlast : (behindPass low high (ss.take i)).getLast? = some t := by
              rw [List.getLast?_eq_getElem?, ← hY1.len]
              simpa using ht
            walk_at "rd"
            refine go_ixL (.inl hG1) (atI_last ys' _) ?_
            walk_at "rd"
            refine go_eq (by cases t.hi <;> rfl) ?_
            rw [eq_optR]
            walk_at "rd"
            have hag : again (behindPass low high (ss.take i)) q = decide (t.hi = some q.lo) := by
              unfold again
              rw [hlast, c1]
              simp
            refine ite2 (fun c2 => ?_) (fun c2 => ?_)
            · have same : Txs G1 (ys' ++ [.ref a]) (if again (behindPass low high (ss.take i)) q then behindPass low high (ss.take i) else behindPass low high (ss.take i) ++ [q]) := by
                rw [hag, c2]
                exact hY1
              exact ⟨_, _, _, rfl, e.trans e1, hG1, same⟩
            · walk_at "rd"
              refine go_app hG1 big ?_
              exact add (by rw [hag]; simpa using c2)
        · refine iteF ?_
          walk_at "rd"
          refine go_app hG1 big ?_
          exact add (by unfold again; rw [show decide (q.hi = some q.lo) = false from by simpa using c1]; rfl)
    · rintro σ G ⟨ys, _, _, rfl, e, hG, hY⟩
      walk_at "rd"
      refine k l G e ⟨ys, hG, ?_⟩
      rw [hT.len, List.take_length] at hY
      exact hY
end
end Kx

set_option Elab.async false
set_option linter.all false
set_option maxRecDepth 100000
set_option maxHeartbeats 2000000

namespace Kx
open PySem PySem.Spec PyProof.Rows L2 HX
open Evl (Ex)
local macro_rules | `(tactic| walk_at "side") => `(tactic| first | assumption | ((try dsimp only); first | assumption | decide +kernel | omega | exact ⟨by decide, by decide⟩ | (left; decide) | (left; omega) | (refine Or.inl ⟨?_, ?_⟩ <;> omega) | (refine Or.inr ⟨?_, ?_⟩ <;> omega)))
local macro_rules | `(tactic| walk_at "heap") => `(tactic| first | assumption | exact upd_same | exact Or.inl (by assumption) | exact Or.inl upd_same)
local macro_rules | `(tactic| walk_at "item") => `(tactic| first | exact rfl | exact atI_nat (j := 0) rfl | exact atI_nat (j := 1) rfl | exact atI_nat (j := 2) rfl | assumption)
local macro_rules | `(tactic| walk_at "rd") => `(tactic| repeat (first
  | ((with_reducible refine' go_var ?hv ?_); (case hv => exact rfl))
  | with_reducible refine' go_c ?_
  | with_reducible refine' go_op ?_
  | with_reducible refine' go_seq ?_
  | with_reducible refine' go_asg ?_
  | with_reducible refine' go_name ?_
  | with_reducible refine' go_cons ?_
  | with_reducible refine' go_nil ?_
  | with_reducible refine' go_cb ?_
  | with_reducible refine' go_call ?_
  | with_reducible refine' go_ifS ?_
  | with_reducible refine' go_test ?_
  | with_reducible refine' go_bl ?_
  | with_reducible refine' go_ret ?_
  | with_reducible refine' go_I0 ?_
  | ((with_reducible refine' go_I ?cc ?_); (case cc => walk_at "side"))
  | ((with_reducible refine' go_ixL ?hh ?hk ?_); (case hh => walk_at "heap"); (case hk => walk_at "item"))
  | ((with_reducible refine' go_ixT ?hh ?hk ?_); (case hh => walk_at "heap"); (case hk => walk_at "item"))
  | ((with_reducible refine' go_lenL ?hh ?_); (case hh => walk_at "heap"))
  | ((with_reducible refine' go_lenT ?hh ?_); (case hh => walk_at "heap"))
  | ((with_reducible refine' go_setL ?hh ?hk ?_); (case hh => walk_at "heap"); (case hk => walk_at "item"))
  | with_reducible refine' go_abs ?_
  | with_reducible refine' go_max ?_
  | with_reducible refine' go_min ?_
  | with_reducible refine' go_int ?_
  | with_reducible refine' go_intB ?_
  | (with_reducible refine' go_eq rfl ?_)
  | (with_reducible refine' go_ne rfl ?_)
  | with_reducible refine' go_isN ?_
  | with_reducible refine' go_notN ?_
  | with_reducible refine' go_if ?_
  | with_reducible refine' go_sub ?_
  | with_reducible refine' go_par ?_
  | with_reducible refine' go_sl ?_
  | with_reducible refine' go_part ?_
  | with_reducible refine' go_pint ?_
  | with_reducible refine' go_nopart ?_
  | ((with_reducible refine' go_lenL ?hh ?_); (case hh => walk_at "heap"))
  | ((with_reducible refine' go_lenT ?hh ?_); (case hh => walk_at "heap"))
  | ((with_reducible refine' go_lenS ?hh ?_); (case hh => assumption))
  | with_reducible refine' go_gcons ?_
  | with_reducible refine' go_gnil ?_
  | with_reducible refine' go_kw ?_
  | with_reducible refine' go_par2 ?_
  | with_reducible refine' go_next ?_
  | with_reducible refine' go_drop ?_
  | with_reducible refine' go_and ?_
  | with_reducible refine' go_or ?_
  | with_reducible refine' go_not ?_
  | with_reducible refine' go_B ?_
  | with_reducible refine' go_andV ?_
  | with_reducible refine' go_orV ?_
  | with_reducible refine' go_notV ?_
  | with_reducible refine' go_chain ?_
  | with_reducible refine' go_un ?_
  | with_reducible refine' go_U ?_
  | with_reducible refine' go_bm ?_
  | with_reducible refine' go_tup ?_
  | with_reducible refine' go_lst ?_
  | with_reducible refine' go_forR1 ?_
  | with_reducible refine' go_forR2 ?_
  | with_reducible refine' go_forL ?_
  | with_reducible refine' go_forT ?_
  | with_reducible refine' go_forE ?_
  | with_reducible refine' go_lcR1 ?_
  | with_reducible refine' go_lcL ?_
  | with_reducible refine' go_lcT ?_
  | ((with_reducible refine' go_tyL ?hh ?_); (case hh => walk_at "heap"))
  | ((with_reducible refine' go_new ?hz ?_); (case hz => exact Nat.le_of_ble_eq_true rfl))
  | (with_reducible refine' ⟨_, rfl, ?_⟩)
  ))
--MACEND
def strStep (dial : Int) (acc : List Sx) : Stg → List Sx
  | .mix lo => behindMixer lo acc
  | .dial a => behindMixer (dial + a) acc
  | .pass lo hi => behindPass lo hi acc
def strAt (dial : Int) (ss : List Stg) : List Sx := ss.foldl (strStep dial) [⟨0, none, 0, 1⟩]
theorem str_take (dial : Int) {ss : List Stg} {i : Nat} {s : Stg} (h : ss[i]? = some s) : strAt dial (ss.take (i + 1)) = strStep dial (strAt dial (ss.take i)) s := by
  rw [List.take_succ, h]
  simp [strAt]
theorem cutS_way {s p : Sx} {low : Int} {high : Option Int} (h : cutS s low high = some p) : p.way = s.way := by
  unfold cutS at h
  split at h
  · split at h
    · cases h
    · cases h; rfl
  · cases h; rfl
theorem wy_mixS {c : Int} {s t : Sx} (h : t ∈ mixS c s) : Wy t := by
  unfold mixS at h
  split at h
  · rw [List.mem_singleton.mp h]; exact .inl rfl
  · split at h
    · split at h
      · rw [List.mem_singleton.mp h]; exact .inr rfl
      · rcases List.mem_cons.mp h with rfl | h
        · exact .inr rfl
        · rw [List.mem_singleton.mp h]; exact .inl rfl
    · rcases List.mem_cons.mp h with rfl | h
      · exact .inr rfl
      · rw [List.mem_singleton.mp h]; exact .inl rfl
theorem wy_mixer {c : Int} {ss : List Sx} : ∀ t ∈ behindMixer c ss, Wy t := fun t h => by
  obtain ⟨s, _, h2⟩ := List.mem_flatMap.mp h
  exact wy_mixS h2
theorem wy_pass {low high : Int} {ss : List Sx} (hw : ∀ s ∈ ss, Wy s) : ∀ t ∈ behindPass low high ss, Wy t := by
  have key : ∀ (ss acc : List Sx), (∀ s ∈ ss, Wy s) → (∀ t ∈ acc, Wy t) → ∀ t ∈ ss.foldl (passStep low high) acc, Wy t := by
    intro ss
    induction ss with
    | nil => intro acc _ h; exact h
    | cons s ss ih =>
      intro acc h1 h2
      refine ih _ (fun x hx => h1 x (List.mem_cons_of_mem _ hx)) fun t ht => ?_
      unfold passStep at ht
      split at ht
      · exact h2 t ht
      · rename_i p hp
        split at ht
        · exact h2 t ht
        · rcases List.mem_append.mp ht with ht | ht
          · exact h2 t ht
          · rw [List.mem_singleton.mp ht]
            have := h1 s List.mem_cons_self
            unfold Wy at this ⊢
            rw [cutS_way hp]
            exact this
  exact key ss [] hw fun _ h => nomatch h
theorem str_ok (dial : Int) (ss : List Stg) : (∀ t ∈ strAt dial ss, Wy t) ∧ (strAt dial ss).length ≤ 2 ^ ss.length := by
  have key : ∀ (ss : List Stg) (acc : List Sx), (∀ t ∈ acc, Wy t) → (∀ t ∈ ss.foldl (strStep dial) acc, Wy t) ∧ (ss.foldl (strStep dial) acc).length ≤ acc.length * 2 ^ ss.length := by
    intro ss
    induction ss with
    | nil => intro acc h; exact ⟨h, by simp⟩
    | cons s ss ih =>
      intro acc h
      have h1 : (∀ t ∈ strStep dial acc s, Wy t) ∧ (strStep dial acc s).length ≤ 2 * acc.length := by
        cases s with
        | mix lo => exact ⟨wy_mixer, mixer_len _ _⟩
        | dial a => exact ⟨wy_mixer, mixer_len _ _⟩
        | pass lo top => exact ⟨wy_pass h, Nat.le_trans (pass_len _ _ _) (by omega)⟩
      obtain ⟨h2, h3⟩ := ih _ h1.1
      refine ⟨h2, ?_⟩
      simp only [List.foldl_cons, List.length_cons, Nat.pow_succ]
      refine Nat.le_trans h3 ?_
      rw [Nat.mul_comm (2 ^ ss.length) 2, ← Nat.mul_assoc, Nat.mul_comm acc.length 2]
      exact Nat.mul_le_mul_right _ h1.2
  have := key ss [⟨0, none, 0, 1⟩] (fun t ht => by rw [List.mem_singleton.mp ht]; exact .inl rfl)
  simpa [strAt] using this
def spStr : Sp := fun vs H Q _ => ∃ x ss dial, vs = [x, .int dial] ∧ Dq H x (.list (ss.map Stg.d)) ∧ ss.length ≤ 8 ∧ ∀ q H', Ex H H' → Lx H' q (strAt dial ss) → Q (.ref q) H'
theorem Lx.ex {H H' : Hp} {p : Addr} {ss : List Sx} (e : Ex H H') : Lx H p ss → Lx H' p ss := fun ⟨xs, h1, h2⟩ => ⟨xs, e _ _ h1, h2.ex e⟩
section
variable {P : Program} {w : World} {K : PySem.W.Frag} {mg : Str → Option Value} {base : Heap}
abbrev s_stretches_at : Stmt := top 30
theorem sc_stretches_at : FnScope ["stages", "dial", "stretches", "stage", "center"] ["stages", "dial"] (defScope s_stretches_at) := ⟨rfl, rfl, rfl, by decide +kernel, rfl, by decide +kernel, by decide +kernel⟩
theorem ok_stretches {f : Addr} {fd : FuncData} (F : Fun K "stretches_at" "stretches_at" s_stretches_at f fd) (h_mixing_tone : Has P w K mg base 1 "mixing_tone" spMixing) (h__behind_mixer : Has P w K mg base 2 "_behind_mixer" spMixL)
    (h__behind_pass : Has P w K mg base 3 "_behind_pass" spPassL) : FnOk P w K mg base CX0 4 f fd ["stages", "dial"] spStr := by
  refine F.ok sc_stretches_at (fun vs H Q E h => ?_) (fun cdv A outer s H vs Q E hr h => ?_)
  · obtain ⟨x, ss, dial, rfl, _⟩ := h
    rfl
  · obtain ⟨x, ss, dial, rfl, hx, h8, k⟩ := h
    refine ⟨_, (pss_cons (ps_set (i := 2) sc_stretches_at.nd rfl (Or.inl rfl) (pe_lst (pa_cons (pe_tup (pa_cons pe_int (pa_cons pe_non (pa_cons pe_int (pa_cons pe_int pa_nil))))) pa_nil)))
  (pss_cons (ps_for PassesOwn.never rfl (pi_list (pv 0)) (pg_name (i := 3) sc_stretches_at.nd rfl (Or.inl rfl))
  (pss_cons (ps_set (i := 4) sc_stretches_at.nd rfl (Or.inl rfl) (pe_hs h_mixing_tone hr rfl (pa_cons (pv 3) (pa_cons (pv 1) pa_nil))))
  (pss_one (ps_if (pt_cmpR op_isN1 (pv 4) pe_non (nomark _))
  (pss_one (ps_set (i := 2) sc_stretches_at.nd rfl (Or.inl rfl) (pe_hs h__behind_pass hr rfl (pa_cons (pv 2) (pa_cons (pe_ix ix_tup (pv 3) pe_int (fun _ _ => rfl)) (pa_cons (pe_ix ix_tup (pv 3) pe_int (fun _ _ => rfl)) pa_nil))))))
  (pss_one (ps_set (i := 2) sc_stretches_at.nd rfl (Or.inl rfl) (pe_hs h__behind_mixer hr rfl (pa_cons (pv 2) (pa_cons (pv 4) pa_nil)))))))))
  (pss_one (ps_ret (pv 2))))), ?_⟩
    obtain ⟨a, xs, rfl, ha, hda⟩ := hx.listAt
    walk_at "rd"
    intro p0 hp0
    have e0 := Ex.new (o := HO.tup [.int 0, .non, .int 0, .int 1]) hp0
    walk_at "rd"
    intro l hl
    have e1 := Ex.new (o := HO.lst [.ref p0]) hl
    have e2 := e0.trans e1
    walk_at "rd"
    refine ⟨⟨xs, .inl (Evl.ex_rd e2 ha)⟩, ?_⟩
    refine run_forL xs (fun i σ G => ∃ (q : Addr) (v3 v4 : Option V), σ = [some (.ref a), some (.int dial), some (.ref q), v3, v4] ∧ Ex H G ∧ Lx G q (strAt dial (ss.take i))) ?_ ?_ ?_ ?_
    · refine ⟨l, _, _, rfl, e2, [.ref p0], upd_same, ?_⟩
      exact Txs.nil.snoc (s := ⟨0, none, 0, 1⟩) ⟨p0, rfl, e1 _ _ upd_same⟩
    · rintro i σ G _ ⟨_, _, _, rfl, e, _⟩
      exact .inl (Evl.ex_rd e ha)
    · rintro i v σ G hi ⟨q, v3, v4, rfl, e, hL⟩
      obtain ⟨st, hs, hv⟩ := dqa_get hda hi
      obtain ⟨wy, len⟩ := str_ok dial (ss.take i)
      have hlen : (strAt dial (ss.take i)).length ≤ 100000 := by
        refine Nat.le_trans len (Nat.le_trans (Nat.pow_le_pow_right (by decide) (show (ss.take i).length ≤ 8 by rw [List.length_take]; omega)) (by decide))
      rw [str_take dial hs]
      walk_at "rd"
      refine ⟨v, st, dial, rfl, hv.ex e, fun G1 e3 => ?_⟩
      have hv1 := hv.ex (e.trans e3)
      have hL1 := hL.ex e3
      walk_at "rd"
      cases st with
      | mix lo =>
        refine ite2 (fun c => absurd c (by simp [Stg.center])) (fun _ => ?_)
        walk_at "rd"
        refine ⟨q, lo, _, rfl, hL1, wy, hlen, fun q2 G2 e4 hL2 => ?_⟩
        walk_at "rd"
        exact ⟨q2, _, _, rfl, (e.trans e3).trans e4, hL2⟩
      | dial d =>
        refine ite2 (fun c => absurd c (by simp [Stg.center])) (fun _ => ?_)
        walk_at "rd"
        refine ⟨q, dial + d, _, rfl, hL1, wy, hlen, fun q2 G2 e4 hL2 => ?_⟩
        walk_at "rd"
        exact ⟨q2, _, _, rfl, (e.trans e3).trans e4, hL2⟩
      | pass lo top =>
        refine ite2 (fun _ => ?_) (fun c => absurd (by simp [Stg.center]) c)
        obtain ⟨b, rfl, hb⟩ := stg_at hv1
        dsimp only at hb
        walk_at "rd"
        refine ⟨q, lo, top, _, rfl, hL1, wy, hlen, fun q2 G2 e4 hL2 => ?_⟩
        walk_at "rd"
        exact ⟨q2, _, _, rfl, (e.trans e3).trans e4, hL2⟩
    · rintro σ G ⟨q, _, _, rfl, e, hL⟩
      walk_at "rd"
      refine k q G e ?_
      rw [hda.len, List.length_map, List.take_length] at hL
      exact hL
end
end Kx

set_option Elab.async false
set_option linter.all false
set_option maxRecDepth 100000
set_option maxHeartbeats 2000000

namespace Kx
open PySem PySem.Spec PyProof.Rows L2 HX
open Evl (Ex)
local macro_rules | `(tactic| walk_at "side") => `(tactic| first | assumption | ((try dsimp only); first | assumption | decide +kernel | omega | exact ⟨by decide, by decide⟩ | (left; decide) | (left; omega) | (refine Or.inl ⟨?_, ?_⟩ <;> omega) | (refine Or.inr ⟨?_, ?_⟩ <;> omega)))
local macro_rules | `(tactic| walk_at "heap") => `(tactic| first | assumption | exact upd_same | exact Or.inl (by assumption) | exact Or.inl upd_same)
local macro_rules | `(tactic| walk_at "item") => `(tactic| first | exact rfl | exact atI_nat (j := 0) rfl | exact atI_nat (j := 1) rfl | exact atI_nat (j := 2) rfl | assumption)
local macro_rules | `(tactic| walk_at "rd") => `(tactic| repeat (first
  | ((with_reducible refine' go_var ?hv ?_); (case hv => exact rfl))
  | with_reducible refine' go_c ?_
  | with_reducible refine' go_op ?_
  | with_reducible refine' go_seq ?_
  | with_reducible refine' go_asg ?_
  | with_reducible refine' go_name ?_
  | with_reducible refine' go_cons ?_
  | with_reducible refine' go_nil ?_
  | with_reducible refine' go_cb ?_
  | with_reducible refine' go_call ?_
  | with_reducible refine' go_ifS ?_
  | with_reducible refine' go_test ?_
  | with_reducible refine' go_bl ?_
  | with_reducible refine' go_ret ?_
  | with_reducible refine' go_I0 ?_
  | ((with_reducible refine' go_I ?cc ?_); (case cc => walk_at "side"))
  | ((with_reducible refine' go_ixL ?hh ?hk ?_); (case hh => walk_at "heap"); (case hk => walk_at "item"))
  | ((with_reducible refine' go_ixT ?hh ?hk ?_); (case hh => walk_at "heap"); (case hk => walk_at "item"))
  | ((with_reducible refine' go_lenL ?hh ?_); (case hh => walk_at "heap"))
  | ((with_reducible refine' go_lenT ?hh ?_); (case hh => walk_at "heap"))
  | ((with_reducible refine' go_setL ?hh ?hk ?_); (case hh => walk_at "heap"); (case hk => walk_at "item"))
  | with_reducible refine' go_abs ?_
  | with_reducible refine' go_max ?_
  | with_reducible refine' go_min ?_
  | with_reducible refine' go_int ?_
  | with_reducible refine' go_intB ?_
  | (with_reducible refine' go_eq rfl ?_)
  | (with_reducible refine' go_ne rfl ?_)
  | with_reducible refine' go_isN ?_
  | with_reducible refine' go_notN ?_
  | with_reducible refine' go_if ?_
  | with_reducible refine' go_sub ?_
  | with_reducible refine' go_par ?_
  | with_reducible refine' go_sl ?_
  | with_reducible refine' go_part ?_
  | with_reducible refine' go_pint ?_
  | with_reducible refine' go_nopart ?_
  | ((with_reducible refine' go_lenL ?hh ?_); (case hh => walk_at "heap"))
  | ((with_reducible refine' go_lenT ?hh ?_); (case hh => walk_at "heap"))
  | ((with_reducible refine' go_lenS ?hh ?_); (case hh => assumption))
  | with_reducible refine' go_gcons ?_
  | with_reducible refine' go_gnil ?_
  | with_reducible refine' go_kw ?_
  | with_reducible refine' go_par2 ?_
  | with_reducible refine' go_next ?_
  | with_reducible refine' go_drop ?_
  | with_reducible refine' go_and ?_
  | with_reducible refine' go_or ?_
  | with_reducible refine' go_not ?_
  | with_reducible refine' go_B ?_
  | with_reducible refine' go_andV ?_
  | with_reducible refine' go_orV ?_
  | with_reducible refine' go_notV ?_
  | with_reducible refine' go_chain ?_
  | with_reducible refine' go_un ?_
  | with_reducible refine' go_U ?_
  | with_reducible refine' go_bm ?_
  | with_reducible refine' go_tup ?_
  | with_reducible refine' go_lst ?_
  | with_reducible refine' go_forR1 ?_
  | with_reducible refine' go_forR2 ?_
  | with_reducible refine' go_forL ?_
  | with_reducible refine' go_forT ?_
  | with_reducible refine' go_forE ?_
  | with_reducible refine' go_lcR1 ?_
  | with_reducible refine' go_lcL ?_
  | with_reducible refine' go_lcT ?_
  | ((with_reducible refine' go_tyL ?hh ?_); (case hh => walk_at "heap"))
  | ((with_reducible refine' go_new ?hz ?_); (case hz => exact Nat.le_of_ble_eq_true rfl))
  | (with_reducible refine' ⟨_, rfl, ?_⟩)
  ))
--MACEND
/-- all numbers of a stretch are far from where arithmetic ends -/
structure Bd (n : Nat) (s : Sx) : Prop where
  lo : s.lo.natAbs < 2 ^ n
  num : s.num.natAbs < 2 ^ n
  hi : ∀ g, s.hi = some g → g.natAbs < 2 ^ n
theorem sm_of {x : Int} (h : x.natAbs ≤ 8 * 2 ^ 2000) : Sm x := Nat.lt_of_le_of_lt h (by decide +kernel)
def endOf (s : Sx) (g : Int) : Int := s.num + s.way * (g - s.lo)
theorem end_bd {s : Sx} {g : Int} (hw : Wy s) (b : Bd 2000 s) (hg : s.hi = some g) : (endOf s g).natAbs ≤ 3 * 2 ^ 2000 := by
  have h1 := b.lo
  have h2 := b.num
  have h3 := b.hi g hg
  unfold endOf
  generalize (2 : Nat) ^ 2000 = B at *
  rcases hw with h | h <;> rw [h] <;> omega
def foldsA (s : Sx) (r : Int) : Int × Option Int := match s.hi with
  | none => (ffold r (s.num + 1), none)
  | some g => (ffold r (mnI s.num (endOf s g) + 1), some (lfold r (mxI s.num (endOf s g) - 1)))
def countM (s : Sx) : Option Int → Option Int
  | none => some 1
  | some r => match (foldsA s r).2 with
    | none => none
    | some l => some (l - (foldsA s r).1 + 1)
def spFolds : Sp := fun vs H Q _ => ∃ v s r, vs = [v, .int r] ∧ Tx H v s ∧ Wy s ∧ Bd 2000 s ∧ 2 ≤ r ∧ ∀ p H', Ex H H' → H' p = some (.tup [.int (foldsA s r).1, optV (foldsA s r).2]) → Q (.ref p) H'
def spCountM : Sp := fun vs H Q _ => ∃ v s rate, vs = [v, optV rate] ∧ Tx H v s ∧ Wy s ∧ Bd 2000 s ∧ (∀ r, rate = some r → 2 ≤ r) ∧ ∀ H', Ex H H' → Q (optV (countM s rate)) H'
section
variable {P : Program} {w : World} {K : PySem.W.Frag} {mg : Str → Option Value} {base : Heap}
end
end Kx

set_option Elab.async false
set_option linter.all false
set_option maxRecDepth 100000
set_option maxHeartbeats 4000000
namespace Kx
open PySem PySem.Spec PyProof.Rows L2 HX
/-! ### how large the stretches of a receiver become; which of them are slopes -/
/-- numbers within B; open only where the way is up; the ends in order -/
structure In (B : Nat) (s : Sx) : Prop where
  w : Wy s
  lo : s.lo.natAbs ≤ B
  num : s.num.natAbs ≤ B
  hi : ∀ g, s.hi = some g → g.natAbs ≤ B ∧ s.lo ≤ g
  up : s.hi = none → s.way = 1
theorem In.mono {B C : Nat} {s : Sx} (h : B ≤ C) (k : In B s) : In C s := ⟨k.w, Nat.le_trans k.lo h, Nat.le_trans k.num h, fun g e => ⟨Nat.le_trans (k.hi g e).1 h, (k.hi g e).2⟩, k.up⟩
theorem sig_in {B : Nat} {s : Sx} {c : Int} (k : In B s) (hc : c.natAbs ≤ B) : (sigOf s c).natAbs ≤ 3 * B := by
  have h1 := k.lo
  have h2 := k.num
  unfold sigOf
  rcases k.w with w | w <;> rw [w] <;> omega
theorem abs_in {B : Nat} {a c : Int} (ha : a.natAbs ≤ B) (hc : c.natAbs ≤ B) : (absI (a - c)).natAbs ≤ 5 * B := by
  unfold absI
  split <;> omega
theorem mix_in {B : Nat} {s t : Sx} {c : Int} (k : In B s) (hc : c.natAbs ≤ B) (h : t ∈ mixS c s) : In (5 * B) t := by
  have hs := sig_in k hc
  have ha := abs_in k.num hc
  have hl := k.lo
  unfold mixS at h
  split at h
  · rw [List.mem_singleton.mp h]
    exact ⟨.inl rfl, by dsimp only; omega, ha, fun g e => ⟨by have := (k.hi g e).1; omega, (k.hi g e).2⟩, fun _ => rfl⟩
  · rename_i h0
    split at h
    · rename_i g hg
      have hb := (k.hi g hg).1
      have hb2 := (k.hi g hg).2
      split at h
      · rw [List.mem_singleton.mp h]
        exact ⟨.inr rfl, by dsimp only; omega, ha, fun g' e => (by cases e; exact ⟨by omega, hb2⟩), fun z => nomatch z⟩
      · rcases List.mem_cons.mp h with rfl | h
        · exact ⟨.inr rfl, by dsimp only; omega, ha, fun g' e => (by cases e; exact ⟨by omega, by dsimp only; omega⟩), fun z => nomatch z⟩
        · rw [List.mem_singleton.mp h]
          exact ⟨.inl rfl, by dsimp only; omega, by dsimp only; omega, fun g' e => (by cases e; exact ⟨by omega, by dsimp only; omega⟩), fun _ => rfl⟩
    · rcases List.mem_cons.mp h with rfl | h
      · exact ⟨.inr rfl, by dsimp only; omega, ha, fun g' e => (by cases e; exact ⟨by omega, by dsimp only; omega⟩), fun z => nomatch z⟩
      · rw [List.mem_singleton.mp h]
        exact ⟨.inl rfl, by dsimp only; omega, by dsimp only; omega, fun g' e => (nomatch e), fun _ => rfl⟩
theorem cut_in {B : Nat} {s p : Sx} {low high : Int} (k : In B s) (h1 : low.natAbs ≤ B) (h2 : high.natAbs ≤ B) (h : cutN s low high = some p) : In (5 * B) p := by
  have s1 := sig_in k h1
  have s2 := sig_in k h2
  have hl := k.lo
  have hn := k.num
  unfold cutN at h
  have m1 : (mnI (sigOf s low) (sigOf s high)).natAbs ≤ 3 * B := by
    show (if sigOf s high < sigOf s low then sigOf s high else sigOf s low).natAbs ≤ _
    split <;> omega
  have m2 : (mxI (sigOf s low) (sigOf s high)).natAbs ≤ 3 * B := by
    show (if sigOf s high > sigOf s low then sigOf s high else sigOf s low).natAbs ≤ _
    split <;> omega
  generalize mnI (sigOf s low) (sigOf s high) = a at *
  generalize mxI (sigOf s low) (sigOf s high) = b at *
  have m3 : (mxI s.lo a).natAbs ≤ 3 * B := by
    show (if a > s.lo then a else s.lo).natAbs ≤ _
    split <;> omega
  have m4 : s.lo ≤ mxI s.lo a := by
    show s.lo ≤ (if a > s.lo then a else s.lo)
    split <;> omega
  unfold cutS at h
  generalize mxI s.lo a = c at *
  have hnum : (s.num + s.way * (c - s.lo)).natAbs ≤ 5 * B := by
    rcases k.w with w | w <;> rw [w] <;> omega
  cases hh : s.hi with
  | none =>
    rw [hh, show topOf none (some b) = some b from rfl] at h
    dsimp only at h
    split at h
    · cases h
    · rename_i hc
      cases h
      exact ⟨k.w, by dsimp only; omega, hnum, fun g e => (by cases e; exact ⟨by omega, by dsimp only; omega⟩), fun z => nomatch z⟩
  | some g =>
    have hg := (k.hi g hh).1
    obtain ⟨l, e, hl⟩ : ∃ l, topOf (some g) (some b) = some l ∧ l.natAbs ≤ 3 * B := by
      unfold topOf
      dsimp only
      split
      · exact ⟨b, rfl, m2⟩
      · exact ⟨g, rfl, by omega⟩
    rw [hh, e] at h
    dsimp only at h
    split at h
    · cases h
    · rename_i hc
      cases h
      exact ⟨k.w, by dsimp only; omega, hnum, fun g' e => (by cases e; exact ⟨by omega, by dsimp only; omega⟩), fun z => nomatch z⟩
theorem mixer_in {B : Nat} {ss : List Sx} {c : Int} (k : ∀ s ∈ ss, In B s) (hc : c.natAbs ≤ B) : ∀ t ∈ behindMixer c ss, In (5 * B) t := fun t h => by
  obtain ⟨s, h1, h2⟩ := List.mem_flatMap.mp h
  exact mix_in (k s h1) hc h2
theorem pass_in {B : Nat} {low high : Int} {ss : List Sx} (k : ∀ s ∈ ss, In B s) (h1 : low.natAbs ≤ B) (h2 : high.natAbs ≤ B) : ∀ t ∈ behindPass low high ss, In (5 * B) t := by
  have key : ∀ (ss acc : List Sx), (∀ s ∈ ss, In B s) → (∀ t ∈ acc, In (5 * B) t) → ∀ t ∈ ss.foldl (passStep low high) acc, In (5 * B) t := by
    intro ss
    induction ss with
    | nil => intro acc _ h; exact h
    | cons s ss ih =>
      intro acc a1 a2
      refine ih _ (fun x hx => a1 x (List.mem_cons_of_mem _ hx)) fun t ht => ?_
      unfold passStep at ht
      split at ht
      · exact a2 t ht
      · rename_i p hp
        split at ht
        · exact a2 t ht
        · rcases List.mem_append.mp ht with ht | ht
          · exact a2 t ht
          · rw [List.mem_singleton.mp ht]
            exact cut_in (a1 s List.mem_cons_self) h1 h2 hp
  exact key ss [] k fun _ h => nomatch h
/-- the numbers of a stage, with the dial, within B -/
def Stg.near (dial : Int) (B : Nat) : Stg → Prop
  | .mix lo => lo.natAbs ≤ B
  | .dial a => (dial + a).natAbs ≤ B
  | .pass a b => a.natAbs ≤ B ∧ b.natAbs ≤ B
theorem Stg.near.mono {dial : Int} {B C : Nat} (h : B ≤ C) {s : Stg} (k : s.near dial B) : s.near dial C := by
  cases s with
  | mix lo => exact Nat.le_trans k h
  | dial a => exact Nat.le_trans k h
  | pass a b => exact ⟨Nat.le_trans k.1 h, Nat.le_trans k.2 h⟩
theorem str_in {dial : Int} {B : Nat} : ∀ (ss : List Stg), (∀ s ∈ ss, s.near dial B) → ∀ (acc : List Sx) (C : Nat), B ≤ C → (∀ t ∈ acc, In C t) → ∀ t ∈ ss.foldl (strStep dial) acc, In (5 ^ ss.length * C) t
  | [], _, acc, C, _, h => fun t ht => by
    rw [List.length_nil, Nat.pow_zero, Nat.one_mul]; exact h t ht
  | s :: ss, hn, acc, C, hB, h => fun t ht => by
    have hs := (hn s List.mem_cons_self).mono hB
    have step : ∀ t ∈ strStep dial acc s, In (5 * C) t := by
      cases s with
      | mix lo => exact mixer_in h hs
      | dial a => exact mixer_in h hs
      | pass a b => exact pass_in h hs.1 hs.2
    have := str_in ss (fun x hx => hn x (List.mem_cons_of_mem _ hx)) (strStep dial acc s) (5 * C) (by omega) step t ht
    rw [List.length_cons, Nat.pow_succ, Nat.mul_assoc]
    exact this
theorem strAt_in {dial : Int} {B : Nat} {ss : List Stg} (h : ∀ s ∈ ss, s.near dial B) (h8 : ss.length ≤ 8) : ∀ t ∈ strAt dial ss, In (390625 * B) t := fun t ht => by
  have := str_in ss h [⟨0, none, 0, 1⟩] B (Nat.le_refl _) (fun t ht => by
    rw [List.mem_singleton.mp ht]
    exact ⟨.inl rfl, Nat.zero_le _, Nat.zero_le _, fun g e => (nomatch e), fun _ => rfl⟩) t ht
  refine this.mono (Nat.mul_le_mul_right _ ?_)
  calc 5 ^ ss.length ≤ 5 ^ 8 := Nat.pow_le_pow_right (by decide) h8
    _ = 390625 := by decide
/-- the slopes of a receiver without its sampler -/
def slopesOf (dial : Int) (ss : List Stg) : List Sx := (strAt dial ss).filter fun s => !decide (s.hi = some s.lo)
end Kx

set_option Elab.async false
set_option linter.all false
set_option maxRecDepth 100000
set_option maxHeartbeats 4000000
namespace Kx
open PySem PySem.Spec PyProof.Rows L2 HX
/-! ### the stretches of a receiver ascend -/
/-- s ends up to where t begins -/
def Ahead (s t : Sx) : Prop := ∃ g, s.hi = some g ∧ g ≤ t.lo
/-- t lies within s -/
structure Within (s t : Sx) : Prop where
  lo : s.lo ≤ t.lo
  hi : ∀ g, s.hi = some g → ∃ g', t.hi = some g' ∧ g' ≤ g
theorem Ahead.within {s s' t t' : Sx} (h : Ahead s s') (k : Within s t) (k' : Within s' t') : Ahead t t' := by
  obtain ⟨g, e, l⟩ := h
  obtain ⟨g', e', l'⟩ := k.hi g e
  exact ⟨g', e', by have := k'.lo; omega⟩
theorem mix_within {B : Nat} {c : Int} {s t : Sx} (k : In B s) (h : t ∈ mixS c s) : Within s t := by
  unfold mixS at h
  split at h
  · rw [List.mem_singleton.mp h]
    exact ⟨Int.le_refl _, fun g e => ⟨g, e, Int.le_refl _⟩⟩
  · rename_i h0
    split at h
    · rename_i g hg
      split at h
      · rw [List.mem_singleton.mp h]
        exact ⟨Int.le_refl _, fun g' e => ⟨g, rfl, by rw [hg] at e; cases e; exact Int.le_refl _⟩⟩
      · rcases List.mem_cons.mp h with rfl | h
        · exact ⟨Int.le_refl _, fun g' e => ⟨_, rfl, by rw [hg] at e; cases e; omega⟩⟩
        · rw [List.mem_singleton.mp h]
          exact ⟨by dsimp only; omega, fun g' e => ⟨_, rfl, by rw [hg] at e; cases e; omega⟩⟩
    · rename_i hg
      rcases List.mem_cons.mp h with rfl | h
      · exact ⟨Int.le_refl _, fun g' e => by rw [hg] at e; cases e⟩
      · rw [List.mem_singleton.mp h]
        exact ⟨by dsimp only; omega, fun g' e => by rw [hg] at e; cases e⟩
theorem mix_pair {c : Int} {s : Sx} : (mixS c s).Pairwise Ahead := by
  unfold mixS
  split
  · exact List.pairwise_singleton _ _
  · split
    · split
      · exact List.pairwise_singleton _ _
      · refine List.pairwise_cons.mpr ⟨fun t h => ?_, List.pairwise_singleton _ _⟩
        rw [List.mem_singleton.mp h]
        exact ⟨_, rfl, Int.le_refl _⟩
    · refine List.pairwise_cons.mpr ⟨fun t h => ?_, List.pairwise_singleton _ _⟩
      rw [List.mem_singleton.mp h]
      exact ⟨_, rfl, Int.le_refl _⟩
theorem mixer_asc {B : Nat} {c : Int} {ss : List Sx} (k : ∀ s ∈ ss, In B s) (h : ss.Pairwise Ahead) : (behindMixer c ss).Pairwise Ahead := by
  induction ss with
  | nil => exact List.Pairwise.nil
  | cons s ss ih =>
    obtain ⟨h1, h2⟩ := List.pairwise_cons.mp h
    unfold behindMixer at ih ⊢
    rw [List.flatMap_cons, List.pairwise_append]
    refine ⟨mix_pair, ih (fun x hx => k x (List.mem_cons_of_mem _ hx)) h2, fun a ha b hb => ?_⟩
    obtain ⟨s', hs', hb'⟩ := List.mem_flatMap.mp hb
    exact (h1 s' hs').within (mix_within (k s List.mem_cons_self) ha) (mix_within (k s' (List.mem_cons_of_mem _ hs')) hb')
theorem cut_within {s p : Sx} {low h : Int} (e : cutS s low (some h) = some p) : Within s p := by
  unfold cutS at e
  have m : s.lo ≤ mxI s.lo low := by
    show s.lo ≤ (if low > s.lo then low else s.lo)
    split <;> omega
  have top : ∀ g, s.hi = some g → ∃ t, topOf s.hi (some h) = some t ∧ t ≤ g := fun g hg => by
    rw [hg]
    unfold topOf
    dsimp only
    split
    · exact ⟨h, rfl, by omega⟩
    · exact ⟨g, rfl, Int.le_refl _⟩
  generalize topOf s.hi (some h) = o at *
  cases o with
  | none =>
    cases e
    exact ⟨m, fun g hg => by obtain ⟨t, z, _⟩ := top g hg; cases z⟩
  | some l =>
    dsimp only at e
    split at e
    · cases e
    · cases e
      exact ⟨m, fun g hg => by obtain ⟨t, z, w⟩ := top g hg; cases z; exact ⟨l, rfl, w⟩⟩
theorem pass_asc {low high : Int} {ss : List Sx} (h : ss.Pairwise Ahead) : (behindPass low high ss).Pairwise Ahead := by
  have key : ∀ (ss acc : List Sx), ss.Pairwise Ahead → acc.Pairwise Ahead → (∀ a ∈ acc, ∀ s ∈ ss, Ahead a s) → (ss.foldl (passStep low high) acc).Pairwise Ahead := by
    intro ss
    induction ss with
    | nil => intro acc _ h _; exact h
    | cons s ss ih =>
      intro acc h1 h2 h3
      obtain ⟨q1, q2⟩ := List.pairwise_cons.mp h1
      rw [List.foldl_cons]
      unfold passStep
      cases hc : cutN s low high with
      | none => exact ih acc q2 h2 fun a ha x hx => h3 a ha x (List.mem_cons_of_mem _ hx)
      | some p =>
        have wi : Within s p := cut_within hc
        have pa : ∀ a ∈ acc, Ahead a p := fun a ha => by
          obtain ⟨g, e, l⟩ := h3 a ha s List.mem_cons_self
          exact ⟨g, e, by have := wi.lo; omega⟩
        have ps : ∀ x ∈ ss, Ahead p x := fun x hx => by
          obtain ⟨g, e, l⟩ := q1 x hx
          obtain ⟨g', e', l'⟩ := wi.hi g e
          exact ⟨g', e', by omega⟩
        dsimp only
        split
        · exact ih acc q2 h2 fun a ha x hx => h3 a ha x (List.mem_cons_of_mem _ hx)
        · refine ih _ q2 (List.pairwise_append.mpr ⟨h2, List.pairwise_singleton _ _, fun a ha b hb => ?_⟩) fun a ha x hx => ?_
          · rw [List.mem_singleton.mp hb]; exact pa a ha
          · rcases List.mem_append.mp ha with ha | ha
            · exact h3 a ha x (List.mem_cons_of_mem _ hx)
            · rw [List.mem_singleton.mp ha]; exact ps x hx
  exact key ss [] h List.Pairwise.nil fun _ z => nomatch z
theorem str_asc {dial : Int} {B : Nat} : ∀ (ss : List Stg), (∀ s ∈ ss, s.near dial B) → ∀ (acc : List Sx) (C : Nat), B ≤ C → (∀ t ∈ acc, In C t) → acc.Pairwise Ahead → (ss.foldl (strStep dial) acc).Pairwise Ahead
  | [], _, acc, C, _, _, h => h
  | s :: ss, hn, acc, C, hB, k, h => by
    have hs := (hn s List.mem_cons_self).mono hB
    have hn' := fun x hx => hn x (List.mem_cons_of_mem s hx)
    rw [List.foldl_cons]
    cases s with
    | mix lo => exact str_asc ss hn' _ (5 * C) (by omega) (mixer_in k hs) (mixer_asc k h)
    | dial a => exact str_asc ss hn' _ (5 * C) (by omega) (mixer_in k hs) (mixer_asc k h)
    | pass a b => exact str_asc ss hn' _ (5 * C) (by omega) (pass_in k hs.1 hs.2) (pass_asc h)
/-- the slopes of a receiver ascend: each ends up to where the next one begins -/
theorem slopes_asc {dial : Int} {B : Nat} {ss : List Stg} (h : ∀ s ∈ ss, s.near dial B) : (slopesOf dial ss).Pairwise Ahead := by
  have := str_asc ss h [⟨0, none, 0, 1⟩] B (Nat.le_refl _) (fun t ht => by
    rw [List.mem_singleton.mp ht]
    exact ⟨.inl rfl, Nat.zero_le _, Nat.zero_le _, fun g e => (nomatch e), fun _ => rfl⟩) (List.pairwise_singleton _ _)
  exact List.Pairwise.filter _ this
end Kx

set_option Elab.async false
set_option linter.all false
set_option maxRecDepth 100000
set_option maxHeartbeats 4000000
namespace Kx
open PySem PySem.Spec PyProof.Rows L2 HX
/-! ### stretches and the tones: which signals, which numbers -/
def inS (s : Sx) (x : Int) : Prop := s.lo ≤ x ∧ ∀ g, s.hi = some g → x ≤ g
def valS (s : Sx) (x : Int) : Int := s.num + s.way * (x - s.lo)
/-- t is not a signal alone -/
def Long (t : Sx) : Prop := ¬ t.hi = some t.lo
/-- one ahead of the other; where they touch, the way turns -/
structure Nx (s t : Sx) : Prop where
  ah : Ahead s t
  alt : s.hi = some t.lo → Long s → Long t → s.way ≠ t.way
structure Cov (f : Int → Option Int) (L : List Sx) : Prop where
  w : ∀ s ∈ L, Wy s
  lo : ∀ s ∈ L, 0 ≤ s.lo
  ord : ∀ s ∈ L, ∀ g, s.hi = some g → s.lo ≤ g
  up : ∀ s ∈ L, s.hi = none → s.way = 1
  val : ∀ s ∈ L, ∀ x, inS s x → f x = some (valS s x)
  all : ∀ x, 0 ≤ x → ∀ n, f x = some n → ∃ s ∈ L, inS s x
  two : ∀ x, 0 ≤ x → ∀ n m, f x = some n → f (x + 1) = some m → ∃ s ∈ L, inS s x ∧ inS s (x + 1)
  nx : L.Pairwise Nx
/-- a piece of a mixed stretch -/
theorem mix_piece {c : Int} {s t : Sx} (w : Wy s) (o : ∀ g, s.hi = some g → s.lo ≤ g) (u : s.hi = none → s.way = 1) (h : t ∈ mixS c s) :
    Wy t ∧ s.lo ≤ t.lo ∧ (∀ g, t.hi = some g → t.lo ≤ g) ∧ (t.hi = none → t.way = 1) ∧ (∀ x, inS t x → inS s x ∧ valS t x = absI (valS s x - c)) ∧
      (t.way = 1 → sigOf s c ≤ t.lo) ∧ (t.way = -1 → ∀ g, t.hi = some g → g ≤ sigOf s c) := by
  have n1 : ¬ (1 : Int) = -1 := by decide
  have n2 : ¬ (-1 : Int) = 1 := by decide
  unfold mixS at h
  have key : ∀ x, valS s x - c = s.way * (x - sigOf s c) := fun x => by
    unfold valS sigOf
    rcases w with w | w <;> rw [w] <;> omega
  split at h
  · rename_i h0
    rw [List.mem_singleton.mp h]
    refine ⟨.inl rfl, Int.le_refl _, o, fun _ => rfl, fun x hx => ⟨hx, ?_⟩, fun _ => h0, fun z => absurd z n1⟩
    obtain ⟨x0, _⟩ := hx
    have x0' : s.lo ≤ x := x0
    have e1 := key s.lo
    rw [show valS s s.lo = s.num from by unfold valS; rw [Int.sub_self, Int.mul_zero, Int.add_zero]] at e1
    rw [key x]
    unfold valS absI
    dsimp only
    rw [e1]
    rcases w with w | w <;> rw [w] <;> split <;> split <;> omega
  · rename_i h0
    have lo0 : valS s s.lo = s.num := by unfold valS; rw [Int.sub_self, Int.mul_zero, Int.add_zero]
    have e1 := key s.lo
    rw [lo0] at e1
    have downv : ∀ (hi : Option Int) (x : Int), s.lo ≤ x → x ≤ sigOf s c → valS ⟨s.lo, hi, absI (s.num - c), -1⟩ x = absI (valS s x - c) := fun hi x x0 x1 => by
      rw [key x]
      unfold valS absI
      dsimp only
      rw [e1]
      rcases w with w | w <;> rw [w] <;> split <;> split <;> omega
    have upv : ∀ (hi : Option Int) (x : Int), sigOf s c ≤ x → valS ⟨sigOf s c, hi, 0, 1⟩ x = absI (valS s x - c) := fun hi x x0 => by
      rw [key x]
      unfold valS absI
      dsimp only
      rcases w with w | w <;> rw [w] <;> split <;> omega
    split at h
    · rename_i g hg
      split at h
      · rename_i h1
        rw [List.mem_singleton.mp h]
        refine ⟨.inr rfl, Int.le_refl _, fun g' e => (by cases e; exact o g hg), (fun z => nomatch z), fun x hx => ?_, fun z => absurd z n2, fun _ g' e => by cases e; exact h1⟩
        have x0 : s.lo ≤ x := hx.1
        have x1 := hx.2 g rfl
        exact ⟨⟨x0, fun g' e => by rw [hg] at e; cases e; exact x1⟩, downv _ x x0 (by omega)⟩
      · rename_i h1
        rcases List.mem_cons.mp h with rfl | h
        · refine ⟨.inr rfl, Int.le_refl _, fun g' e => (by cases e; dsimp only; omega), (fun z => nomatch z), fun x hx => ?_, fun z => absurd z n2, fun _ g' e => by cases e; exact Int.le_refl _⟩
          have x0 : s.lo ≤ x := hx.1
          have x1 := hx.2 _ rfl
          exact ⟨⟨x0, fun g' e => by rw [hg] at e; cases e; omega⟩, downv _ x x0 x1⟩
        · rw [List.mem_singleton.mp h]
          refine ⟨.inl rfl, by dsimp only; omega, fun g' e => (by cases e; dsimp only; omega), (fun z => nomatch z), fun x hx => ?_, fun _ => Int.le_refl _, fun z => absurd z n1⟩
          have x0 : sigOf s c ≤ x := hx.1
          have x1 := hx.2 g rfl
          exact ⟨⟨by omega, fun g' e => by rw [hg] at e; cases e; exact x1⟩, upv _ x x0⟩
    · rename_i hg
      rcases List.mem_cons.mp h with rfl | h
      · refine ⟨.inr rfl, Int.le_refl _, fun g' e => (by cases e; dsimp only; omega), (fun z => nomatch z), fun x hx => ?_, fun z => absurd z n2, fun _ g' e => by cases e; exact Int.le_refl _⟩
        have x0 : s.lo ≤ x := hx.1
        have x1 := hx.2 _ rfl
        exact ⟨⟨x0, fun g' e => by rw [hg] at e; cases e⟩, downv _ x x0 x1⟩
      · rw [List.mem_singleton.mp h]
        refine ⟨.inl rfl, by dsimp only; omega, (fun g' e => nomatch e), fun _ => rfl, fun x hx => ?_, fun _ => Int.le_refl _, fun z => absurd z n1⟩
        have x0 : sigOf s c ≤ x := hx.1
        exact ⟨⟨by omega, fun g' e => by rw [hg] at e; cases e⟩, upv _ x x0⟩
/-- every two neighbours of a stretch, and every signal of it, lie in a piece -/
theorem mix_has {c : Int} {s : Sx} (o : ∀ g, s.hi = some g → s.lo ≤ g) : (∀ x, inS s x → ∃ t ∈ mixS c s, inS t x) ∧ (∀ x, inS s x → inS s (x + 1) → ∃ t ∈ mixS c s, inS t x ∧ inS t (x + 1)) := by
  unfold mixS
  split
  · exact ⟨fun x hx => ⟨_, List.mem_singleton.mpr rfl, hx⟩, fun x hx hy => ⟨_, List.mem_singleton.mpr rfl, hx, hy⟩⟩
  · rename_i h0
    split
    · rename_i g hg
      split
      · have tr : ∀ x, inS s x → inS ⟨s.lo, some g, absI (s.num - c), -1⟩ x := fun x hx => ⟨hx.1, fun g' e => by cases e; exact hx.2 g hg⟩
        exact ⟨fun x hx => ⟨_, List.mem_singleton.mpr rfl, tr x hx⟩, fun x hx hy => ⟨_, List.mem_singleton.mpr rfl, tr _ hx, tr _ hy⟩⟩
      · have d : ∀ x, inS s x → x ≤ sigOf s c → inS ⟨s.lo, some (sigOf s c), absI (s.num - c), -1⟩ x := fun x hx h => ⟨hx.1, fun g' e => by cases e; exact h⟩
        have u : ∀ x, inS s x → sigOf s c ≤ x → inS ⟨sigOf s c, some g, 0, 1⟩ x := fun x hx h => ⟨h, fun g' e => by cases e; exact hx.2 g hg⟩
        refine ⟨fun x hx => ?_, fun x hx hy => ?_⟩
        · by_cases z : x ≤ sigOf s c
          · exact ⟨_, List.mem_cons_self, d x hx z⟩
          · exact ⟨_, List.mem_cons_of_mem _ List.mem_cons_self, u x hx (by omega)⟩
        · by_cases z : x + 1 ≤ sigOf s c
          · exact ⟨_, List.mem_cons_self, d x hx (by omega), d _ hy z⟩
          · exact ⟨_, List.mem_cons_of_mem _ List.mem_cons_self, u x hx (by omega), u _ hy (by omega)⟩
    · rename_i hg
      have d : ∀ x, inS s x → x ≤ sigOf s c → inS ⟨s.lo, some (sigOf s c), absI (s.num - c), -1⟩ x := fun x hx h => ⟨hx.1, fun g' e => by cases e; exact h⟩
      have u : ∀ x, inS s x → sigOf s c ≤ x → inS ⟨sigOf s c, none, 0, 1⟩ x := fun x hx h => ⟨h, fun g' e => nomatch e⟩
      refine ⟨fun x hx => ?_, fun x hx hy => ?_⟩
      · by_cases z : x ≤ sigOf s c
        · exact ⟨_, List.mem_cons_self, d x hx z⟩
        · exact ⟨_, List.mem_cons_of_mem _ List.mem_cons_self, u x hx (by omega)⟩
      · by_cases z : x + 1 ≤ sigOf s c
        · exact ⟨_, List.mem_cons_self, d x hx (by omega), d _ hy z⟩
        · exact ⟨_, List.mem_cons_of_mem _ List.mem_cons_self, u x hx (by omega), u _ hy (by omega)⟩
theorem mix_nx {c : Int} {s : Sx} : (mixS c s).Pairwise Nx := by
  have one : ∀ t : Sx, [t].Pairwise Nx := fun t => List.pairwise_singleton _ _
  have ne : (-1 : Int) ≠ 1 := by decide
  unfold mixS
  split
  · exact one _
  · split
    · split
      · exact one _
      · refine List.pairwise_cons.mpr ⟨fun t h => ?_, one _⟩
        rw [List.mem_singleton.mp h]
        exact ⟨⟨_, rfl, Int.le_refl _⟩, fun _ _ _ => ne⟩
    · refine List.pairwise_cons.mpr ⟨fun t h => ?_, one _⟩
      rw [List.mem_singleton.mp h]
      exact ⟨⟨_, rfl, Int.le_refl _⟩, fun _ _ _ => ne⟩
theorem long_of {t : Sx} {g : Int} (h : Long t) (e : t.hi = some g) (o : t.lo ≤ g) : t.lo < g := by
  have : t.lo ≠ g := fun z => h (by rw [e, z])
  omega
/-- pieces of two stretches, one ahead of the other -/
theorem mix_cross {f : Int → Option Int} {c : Int} {s s' t t' : Sx} (w : Wy s) (w' : Wy s') (o : ∀ g, s.hi = some g → s.lo ≤ g) (o' : ∀ g, s'.hi = some g → s'.lo ≤ g) (u : s.hi = none → s.way = 1) (u' : s'.hi = none → s'.way = 1)
    (v : ∀ x, inS s x → f x = some (valS s x)) (v' : ∀ x, inS s' x → f x = some (valS s' x)) (h : Nx s s') (ht : t ∈ mixS c s) (ht' : t' ∈ mixS c s') : Nx t t' := by
  obtain ⟨p1, p2, p3, p4, p5, p6, p7⟩ := mix_piece w o u ht
  obtain ⟨q1, q2, q3, q4, q5, q6, q7⟩ := mix_piece w' o' u' ht'
  obtain ⟨g, hg, hl⟩ := h.ah
  -- the end of t lies within s
  have tend : ∃ e, t.hi = some e ∧ e ≤ g := by
    cases he : t.hi with
    | none =>
      exfalso
      have i1 : inS t (g + 1 + (if t.lo > g then t.lo - g else 0)) := ⟨by split <;> omega, fun _ z => by rw [he] at z; cases z⟩
      have := (p5 _ i1).1.2 g hg
      split at this <;> omega
    | some e =>
      have i1 : inS t e := ⟨p3 e he, fun e' z => by rw [he] at z; cases z; exact Int.le_refl _⟩
      exact ⟨e, rfl, (p5 e i1).1.2 g hg⟩
  obtain ⟨e, he, hle⟩ := tend
  refine ⟨⟨e, he, by omega⟩, fun touch lt lt' => ?_⟩
  rw [he] at touch
  cases touch
  -- all four ends are one
  have e1 : t'.lo = g := by omega
  have e2 : s'.lo = g := by omega
  have i1 : inS t g := ⟨by have := p3 _ he; omega, fun z hz => by rw [he] at hz; cases hz; omega⟩
  have tl := long_of lt he (p3 _ he)
  have ls : Long s := fun z => by
    rw [hg] at z
    have : s.lo = g := by cases z; rfl
    omega
  have i2 : inS t' (g + 1) := ⟨by omega, fun z hz => by have := long_of lt' hz (q3 z hz); omega⟩
  have i3 := (q5 _ i2).1
  have ls' : Long s' := fun z => by
    have := i3.2 _ z
    omega
  have ww := h.alt (by rw [hg, e2]) ls ls'
  have sg : inS s g := (p5 g i1).1
  have sg' : inS s' g := ⟨by omega, fun z hz => by have := i3.2 z hz; omega⟩
  have vv : valS s g = valS s' g := Option.some.inj ((v g sg).symm.trans (v' g sg'))
  -- where the center lies
  intro same
  have t1 : t.way = 1 → sigOf s c < g := fun z => by
    have := p6 z
    omega
  have t2 : t.way = -1 → g ≤ sigOf s c := fun z => by have := p7 z _ he; omega
  have t3 : t'.way = 1 → sigOf s' c ≤ g := fun z => by have := q6 z; omega
  have t4 : t'.way = -1 → g < sigOf s' c := fun z => by
    cases hh : t'.hi with
    | none => rw [q4 hh] at z; cases z
    | some k =>
      have := q7 z k hh
      have := long_of lt' hh (q3 k hh)
      omega
  unfold sigOf at t1 t2 t3 t4
  unfold valS at vv
  rw [e2] at vv t3 t4
  rcases p1 with a | a <;> rcases q1 with b | b <;> rcases w with x | x <;> rcases w' with y | y <;> rw [x, y] at vv <;> first
    | (rw [x, y] at ww; exact ww rfl)
    | (rw [a, b] at same; exact absurd same (by decide))
    | (have k1 := t1 a; have k3 := t3 b; rw [x] at k1; rw [y] at k3; omega)
    | (have k1 := t2 a; have k3 := t4 b; rw [x] at k1; rw [y] at k3; omega)
theorem cov_mixer {f : Int → Option Int} {c : Int} {L : List Sx} (C : Cov f L) : Cov (fun x => (f x).map fun n => absI (n - c)) (behindMixer c L) := by
  have P := fun s hs t (ht : t ∈ mixS c s) => mix_piece (C.w s hs) (C.ord s hs) (C.up s hs) ht
  refine ⟨fun t ht => ?_, fun t ht => ?_, fun t ht => ?_, fun t ht => ?_, fun t ht x hx => ?_, fun x x0 n hn => ?_, fun x x0 n m hn hm => ?_, ?_⟩
  · obtain ⟨s, hs, h⟩ := List.mem_flatMap.mp ht
    exact (P s hs t h).1
  · obtain ⟨s, hs, h⟩ := List.mem_flatMap.mp ht
    have := (P s hs t h).2.1
    have := C.lo s hs
    omega
  · obtain ⟨s, hs, h⟩ := List.mem_flatMap.mp ht
    exact (P s hs t h).2.2.1
  · obtain ⟨s, hs, h⟩ := List.mem_flatMap.mp ht
    exact (P s hs t h).2.2.2.1
  · obtain ⟨s, hs, h⟩ := List.mem_flatMap.mp ht
    obtain ⟨i, e⟩ := (P s hs t h).2.2.2.2.1 x hx
    rw [C.val s hs x i, e]
    rfl
  · obtain ⟨n', h1, _⟩ := Option.map_eq_some_iff.mp hn
    obtain ⟨s, hs, hi⟩ := C.all x x0 n' h1
    obtain ⟨t, ht, h⟩ := (mix_has (c := c) (C.ord s hs)).1 x hi
    exact ⟨t, List.mem_flatMap.mpr ⟨s, hs, ht⟩, h⟩
  · obtain ⟨n', h1, _⟩ := Option.map_eq_some_iff.mp hn
    obtain ⟨m', h2, _⟩ := Option.map_eq_some_iff.mp hm
    obtain ⟨s, hs, hi, hj⟩ := C.two x x0 n' m' h1 h2
    obtain ⟨t, ht, h⟩ := (mix_has (c := c) (C.ord s hs)).2 x hi hj
    exact ⟨t, List.mem_flatMap.mpr ⟨s, hs, ht⟩, h⟩
  · have key : ∀ M : List Sx, (∀ s ∈ M, s ∈ L) → M.Pairwise Nx → (behindMixer c M).Pairwise Nx := by
      intro M
      induction M with
      | nil => intro _ _; exact List.Pairwise.nil
      | cons s M ih =>
        intro sub h
        obtain ⟨h1, h2⟩ := List.pairwise_cons.mp h
        have hs := sub s List.mem_cons_self
        unfold behindMixer at ih ⊢
        rw [List.flatMap_cons, List.pairwise_append]
        refine ⟨mix_nx, ih (fun x hx => sub x (List.mem_cons_of_mem _ hx)) h2, fun a ha b hb => ?_⟩
        obtain ⟨s', hs', hb'⟩ := List.mem_flatMap.mp hb
        have hs2 := sub s' (List.mem_cons_of_mem _ hs')
        exact mix_cross (C.w s hs) (C.w s' hs2) (C.ord s hs) (C.ord s' hs2) (C.up s hs) (C.up s' hs2) (C.val s hs) (C.val s' hs2) (h1 s' hs') ha hb'
    exact key L (fun _ h => h) C.nx
end Kx

set_option Elab.async false
set_option linter.all false
set_option maxRecDepth 100000
set_option maxHeartbeats 4000000
namespace Kx
open PySem PySem.Spec PyProof.Rows L2 HX
/-! ### a pass -/
theorem cutS_all {s : Sx} {a b : Int} (o : ∀ g, s.hi = some g → s.lo ≤ g) :
    (∀ p, cutS s a (some b) = some p → p.way = s.way ∧ (∃ e, p.hi = some e ∧ p.lo ≤ e) ∧ (∀ x, inS p x ↔ inS s x ∧ a ≤ x ∧ x ≤ b) ∧ ∀ x, valS p x = valS s x) ∧
    (cutS s a (some b) = none → ∀ x, inS s x → ¬ (a ≤ x ∧ x ≤ b)) := by
  have top : ∃ l, topOf s.hi (some b) = some l ∧ ∀ x, x ≤ l ↔ (∀ g, s.hi = some g → x ≤ g) ∧ x ≤ b := by
    cases hh : s.hi with
    | none => exact ⟨b, rfl, fun x => ⟨fun h => ⟨fun g e => (by cases e), h⟩, fun h => h.2⟩⟩
    | some g =>
      unfold topOf
      dsimp only
      split
      · exact ⟨b, rfl, fun x => ⟨fun h => ⟨fun g' e => (by cases e; omega), h⟩, fun h => h.2⟩⟩
      · exact ⟨g, rfl, fun x => ⟨fun h => ⟨fun g' e => (by cases e; exact h), by omega⟩, fun h => h.1 g rfl⟩⟩
  obtain ⟨l, hl, hx⟩ := top
  have mx : ∀ x, mxI s.lo a ≤ x ↔ s.lo ≤ x ∧ a ≤ x := fun x => by
    show (if a > s.lo then a else s.lo) ≤ x ↔ _
    split <;> omega
  unfold cutS
  rw [hl]
  dsimp only
  by_cases lt : l < mxI s.lo a
  · rw [if_pos lt]
    refine ⟨(fun p e => nomatch e), fun _ x i z => ?_⟩
    have h1 := (mx x).mpr ⟨i.1, z.1⟩
    have h2 := (hx x).mpr ⟨i.2, z.2⟩
    omega
  · rw [if_neg lt]
    refine ⟨fun p e => ?_, (fun e => nomatch e)⟩
    cases e
    refine ⟨rfl, ⟨l, rfl, by dsimp only; omega⟩, fun x => ⟨fun i => ?_, fun i => ?_⟩, fun x => ?_⟩
    · have h1 := (mx x).mp i.1
      have h2 := (hx x).mp (i.2 l rfl)
      exact ⟨⟨h1.1, h2.1⟩, h1.2, h2.2⟩
    · exact ⟨(mx x).mpr ⟨i.1.1, i.2.1⟩, fun g e => (by cases e; exact (hx x).mpr ⟨i.1.2, i.2.2⟩)⟩
    · unfold valS
      dsimp only
      rw [Int.mul_sub, Int.mul_sub, Int.mul_sub]
      omega
theorem sig_val {s : Sx} (w : Wy s) {low high x : Int} (h : low ≤ high) : mnI (sigOf s low) (sigOf s high) ≤ x ∧ x ≤ mxI (sigOf s low) (sigOf s high) ↔ low ≤ valS s x ∧ valS s x ≤ high := by
  show (if sigOf s high < sigOf s low then sigOf s high else sigOf s low) ≤ x ∧ x ≤ (if sigOf s high > sigOf s low then sigOf s high else sigOf s low) ↔ _
  unfold sigOf valS
  rcases w with w | w <;> rw [w] <;> split <;> split <;> omega
/-- the part of a stretch whose numbers lie between two -/
theorem cutN_all {s : Sx} {low high : Int} (w : Wy s) (o : ∀ g, s.hi = some g → s.lo ≤ g) (h : low ≤ high) :
    (∀ p, cutN s low high = some p → p.way = s.way ∧ (∃ e, p.hi = some e ∧ p.lo ≤ e) ∧ (∀ x, inS p x ↔ inS s x ∧ low ≤ valS s x ∧ valS s x ≤ high) ∧ ∀ x, valS p x = valS s x) ∧
    (cutN s low high = none → ∀ x, inS s x → ¬ (low ≤ valS s x ∧ valS s x ≤ high)) := by
  obtain ⟨k1, k2⟩ := cutS_all (a := mnI (sigOf s low) (sigOf s high)) (b := mxI (sigOf s low) (sigOf s high)) o
  refine ⟨fun p e => ?_, fun e x i z => k2 e x i ((sig_val w h).mpr z)⟩
  obtain ⟨q1, q2, q3, q4⟩ := k1 p e
  exact ⟨q1, q2, fun x => (q3 x).trans (and_congr_right fun _ => sig_val w h), q4⟩
/-- t is a part of s -/
structure Part (s t : Sx) : Prop where
  way : t.way = s.way
  ord : ∃ e, t.hi = some e ∧ t.lo ≤ e
  sub : ∀ x, inS t x → inS s x
theorem Part.lo {s t : Sx} (p : Part s t) : s.lo ≤ t.lo := by
  obtain ⟨e, h1, h2⟩ := p.ord
  exact (p.sub t.lo ⟨Int.le_refl _, fun g z => (by rw [h1] at z; cases z; exact h2)⟩).1
theorem Part.hi {s t : Sx} (p : Part s t) {e g : Int} (he : t.hi = some e) (hg : s.hi = some g) : e ≤ g := by
  obtain ⟨e', h1, h2⟩ := p.ord
  rw [he] at h1
  cases h1
  exact (p.sub e ⟨h2, fun g z => (by rw [he] at z; cases z; exact Int.le_refl _)⟩).2 g hg
theorem Part.long {s t : Sx} (p : Part s t) (h : Long t) : Long s := fun z => by
  obtain ⟨e, h1, h2⟩ := p.ord
  have l1 := p.lo
  have l2 := p.hi h1 z
  exact h (by rw [h1]; congr 1; omega)
theorem Nx.left {s s' t : Sx} (h : Nx s s') (p : Part s t) : Nx t s' := by
  obtain ⟨g, hg, hl⟩ := h.ah
  obtain ⟨e, h1, h2⟩ := p.ord
  have l2 := p.hi h1 hg
  refine ⟨⟨e, h1, by omega⟩, fun touch lt ls => ?_⟩
  rw [h1] at touch
  cases touch
  rw [p.way]
  exact h.alt (by rw [hg]; congr 1; omega) (p.long lt) ls
theorem Nx.right {s s' t : Sx} (h : Nx s s') (p : Part s' t) : Nx s t := by
  obtain ⟨g, hg, hl⟩ := h.ah
  have l1 := p.lo
  refine ⟨⟨g, hg, by omega⟩, fun touch ls lt => ?_⟩
  rw [hg] at touch
  cases touch
  rw [p.way]
  exact h.alt (by rw [hg]; congr 1; omega) ls (p.long lt)
theorem pass_mem {low high : Int} : ∀ (ss acc : List Sx), (∀ t ∈ acc, t ∈ ss.foldl (passStep low high) acc) ∧
    (∀ t ∈ ss.foldl (passStep low high) acc, t ∈ acc ∨ ∃ s ∈ ss, cutN s low high = some t) ∧
    (∀ s ∈ ss, ∀ p, cutN s low high = some p → p ∈ ss.foldl (passStep low high) acc ∨ (p.hi = some p.lo ∧ ∃ t ∈ ss.foldl (passStep low high) acc, t.hi = some p.lo))
  | [], acc => ⟨fun t h => h, fun t h => .inl h, fun s h => nomatch h⟩
  | s :: ss, acc => by
    obtain ⟨i1, i2, i3⟩ := pass_mem ss (passStep low high acc s)
    rw [List.foldl_cons]
    have sub : ∀ t ∈ acc, t ∈ passStep low high acc s := fun t h => by
      unfold passStep
      split
      · exact h
      · split
        · exact h
        · exact List.mem_append_left _ h
    refine ⟨fun t h => i1 t (sub t h), fun t h => ?_, fun x hx p hp => ?_⟩
    · rcases i2 t h with h | ⟨s', hs', e⟩
      · unfold passStep at h
        split at h
        · exact .inl h
        · rename_i q hq
          split at h
          · exact .inl h
          · rcases List.mem_append.mp h with h | h
            · exact .inl h
            · rw [List.mem_singleton.mp h]
              exact .inr ⟨s, List.mem_cons_self, hq⟩
      · exact .inr ⟨s', List.mem_cons_of_mem _ hs', e⟩
    · rcases List.mem_cons.mp hx with rfl | hx
      · by_cases ag : again acc p = true
        · right
          unfold again at ag
          rw [Bool.and_eq_true, decide_eq_true_eq] at ag
          refine ⟨ag.1, ?_⟩
          have ag2 := ag.2
          cases hl : acc.getLast? with
          | none => rw [hl] at ag2; cases ag2
          | some t =>
            rw [hl] at ag2
            exact ⟨t, i1 t (sub t (List.mem_of_getLast? hl)), of_decide_eq_true ag2⟩
        · left
          refine i1 p ?_
          unfold passStep
          rw [hp]
          dsimp only
          rw [if_neg ag]
          exact List.mem_append_right _ (List.mem_singleton.mpr rfl)
      · exact i3 x hx p hp
theorem pass_nx {low high : Int} (le : low ≤ high) : ∀ (ss acc : List Sx), (∀ s ∈ ss, Wy s ∧ ∀ g, s.hi = some g → s.lo ≤ g) → ss.Pairwise Nx → acc.Pairwise Nx → (∀ a ∈ acc, ∀ s ∈ ss, Nx a s) → (ss.foldl (passStep low high) acc).Pairwise Nx
  | [], acc, _, _, h, _ => h
  | s :: ss, acc, ok, h1, h2, h3 => by
    obtain ⟨q1, q2⟩ := List.pairwise_cons.mp h1
    have ok' := fun x hx => ok x (List.mem_cons_of_mem s hx)
    rw [List.foldl_cons]
    unfold passStep
    cases hc : cutN s low high with
    | none => exact pass_nx le ss acc ok' q2 h2 fun a ha x hx => h3 a ha x (List.mem_cons_of_mem _ hx)
    | some p =>
      dsimp only
      split
      · exact pass_nx le ss acc ok' q2 h2 fun a ha x hx => h3 a ha x (List.mem_cons_of_mem _ hx)
      · obtain ⟨k1, k2, k3, _⟩ := (cutN_all (ok s List.mem_cons_self).1 (ok s List.mem_cons_self).2 le).1 p hc
        have pt : Part s p := ⟨k1, k2, fun x hx => ((k3 x).mp hx).1⟩
        refine pass_nx le ss _ ok' q2 (List.pairwise_append.mpr ⟨h2, List.pairwise_singleton _ _, fun a ha b hb => ?_⟩) fun a ha x hx => ?_
        · rw [List.mem_singleton.mp hb]
          exact (h3 a ha s List.mem_cons_self).right pt
        · rcases List.mem_append.mp ha with ha | ha
          · exact h3 a ha x (List.mem_cons_of_mem _ hx)
          · rw [List.mem_singleton.mp ha]
            exact (q1 x hx).left pt
theorem cov_pass {f : Int → Option Int} {low high : Int} {L : List Sx} (le : low ≤ high) (C : Cov f L) : Cov (fun x => (f x).bind fun n => if low ≤ n ∧ n ≤ high then some n else none) (behindPass low high L) := by
  obtain ⟨_, m2, m3⟩ := pass_mem (low := low) (high := high) L []
  have P := fun s hs => cutN_all (low := low) (high := high) (C.w s hs) (C.ord s hs) le
  have from_ : ∀ t ∈ behindPass low high L, ∃ s ∈ L, cutN s low high = some t := fun t ht => by
    rcases m2 t ht with h | h
    · cases h
    · exact h
  have hv : ∀ {x n : Int}, ((f x).bind fun n => if low ≤ n ∧ n ≤ high then some n else none) = some n → f x = some n ∧ low ≤ n ∧ n ≤ high := fun {x n} h => by
    obtain ⟨n', h1, h2⟩ := Option.bind_eq_some_iff.mp h
    split at h2
    · cases h2
      exact ⟨h1, by assumption⟩
    · cases h2
  refine ⟨fun t ht => ?_, fun t ht => ?_, fun t ht g hg => ?_, fun t ht z => ?_, fun t ht x hx => ?_, fun x x0 n hn => ?_, fun x x0 n m hn hm => ?_, ?_⟩
  · obtain ⟨s, hs, e⟩ := from_ t ht
    have := ((P s hs).1 t e).1
    unfold Wy
    rw [this]
    exact C.w s hs
  · obtain ⟨s, hs, e⟩ := from_ t ht
    obtain ⟨k1, k2, k3, _⟩ := (P s hs).1 t e
    have := (Part.mk k1 k2 fun x hx => ((k3 x).mp hx).1).lo
    have := C.lo s hs
    omega
  · obtain ⟨s, hs, e⟩ := from_ t ht
    obtain ⟨e', h1, h2⟩ := ((P s hs).1 t e).2.1
    rw [hg] at h1
    cases h1
    exact h2
  · obtain ⟨s, hs, e⟩ := from_ t ht
    obtain ⟨e', h1, h2⟩ := ((P s hs).1 t e).2.1
    rw [z] at h1
    cases h1
  · obtain ⟨s, hs, e⟩ := from_ t ht
    obtain ⟨k1, k2, k3, k4⟩ := (P s hs).1 t e
    obtain ⟨i, r⟩ := (k3 x).mp hx
    rw [C.val s hs x i, k4]
    show (if low ≤ valS s x ∧ valS s x ≤ high then some (valS s x) else none) = _
    rw [if_pos r]
  · obtain ⟨h1, h2⟩ := hv hn
    obtain ⟨s, hs, hi⟩ := C.all x x0 n h1
    have vx : valS s x = n := Option.some.inj ((C.val s hs x hi).symm.trans h1)
    cases hc : cutN s low high with
    | none => exact absurd (by rw [vx]; exact h2) ((P s hs).2 hc x hi)
    | some p =>
      obtain ⟨k1, k2, k3, k4⟩ := (P s hs).1 p hc
      have ip : inS p x := (k3 x).mpr ⟨hi, by rw [vx]; exact h2⟩
      rcases m3 s hs p hc with h | ⟨h, t, ht, e⟩
      · exact ⟨p, h, ip⟩
      · refine ⟨t, ht, ?_, fun g hg => ?_⟩
        · obtain ⟨s', hs', e'⟩ := from_ t ht
          obtain ⟨g, q1, q2⟩ := ((P s' hs').1 t e').2.1
          rw [e] at q1
          cases q1
          have := ip.1
          omega
        · rw [e] at hg
          cases hg
          have := ip.2 _ h
          omega
  · obtain ⟨h1, h2⟩ := hv hn
    obtain ⟨h3, h4⟩ := hv hm
    obtain ⟨s, hs, hi, hj⟩ := C.two x x0 n m h1 h3
    have vx : valS s x = n := Option.some.inj ((C.val s hs x hi).symm.trans h1)
    have vy : valS s (x + 1) = m := Option.some.inj ((C.val s hs _ hj).symm.trans h3)
    cases hc : cutN s low high with
    | none => exact absurd (by rw [vx]; exact h2) ((P s hs).2 hc x hi)
    | some p =>
      obtain ⟨k1, k2, k3, k4⟩ := (P s hs).1 p hc
      have ip : inS p x := (k3 x).mpr ⟨hi, by rw [vx]; exact h2⟩
      have jp : inS p (x + 1) := (k3 _).mpr ⟨hj, by rw [vy]; exact h4⟩
      rcases m3 s hs p hc with h | ⟨h, t, ht, e⟩
      · exact ⟨p, h, ip, jp⟩
      · have := ip.1
        have := jp.2 _ h
        omega
  · exact pass_nx le L [] (fun s hs => ⟨C.w s hs, C.ord s hs⟩) C.nx List.Pairwise.nil fun a h => nomatch h
/-! ### all stages -/
theorem cov_start : Cov (fun x => some x) [⟨0, none, 0, 1⟩] := by
  refine ⟨fun t ht => ?_, fun t ht => ?_, fun t ht => ?_, fun t ht => ?_, fun t ht x hx => ?_, fun x x0 n hn => ?_, fun x x0 n m hn hm => ?_, List.pairwise_singleton _ _⟩
  · rw [List.mem_singleton.mp ht]; exact .inl rfl
  · rw [List.mem_singleton.mp ht]; exact Int.le_refl _
  · rw [List.mem_singleton.mp ht]; exact fun g e => nomatch e
  · rw [List.mem_singleton.mp ht]; exact fun _ => rfl
  · rw [List.mem_singleton.mp ht]
    unfold valS
    dsimp only
    congr 1
    omega
  · exact ⟨_, List.mem_singleton.mpr rfl, x0, fun g e => nomatch e⟩
  · exact ⟨_, List.mem_singleton.mpr rfl, ⟨x0, fun g e => nomatch e⟩, by dsimp only; omega, fun g e => nomatch e⟩
theorem cov_step {dial : Int} {f : Int → Option Int} {L : List Sx} {s : Stg} (hs : ∀ a b, s = .pass a b → a ≤ b) (C : Cov f L) : Cov (fun x => s.step dial (f x)) (strStep dial L s) := by
  cases s with
  | mix lo =>
    have e : (fun x => (Stg.mix lo).step dial (f x)) = fun x => (f x).map fun n => absI (n - lo) := funext fun x => by
      cases f x <;> rfl
    rw [e]
    exact cov_mixer C
  | dial a =>
    have e : (fun x => (Stg.dial a).step dial (f x)) = fun x => (f x).map fun n => absI (n - (dial + a)) := funext fun x => by
      cases f x <;> rfl
    rw [e]
    exact cov_mixer C
  | pass a b =>
    have e : (fun x => (Stg.pass a b).step dial (f x)) = fun x => (f x).bind fun n => if a ≤ n ∧ n ≤ b then some n else none := funext fun x => by
      cases f x <;> rfl
    rw [e]
    exact cov_pass (hs a b rfl) C
theorem cov_all {dial : Int} : ∀ (ss : List Stg) (f : Int → Option Int) (L : List Sx), (∀ s ∈ ss, ∀ a b, s = .pass a b → a ≤ b) → Cov f L → Cov (fun x => lastT dial ss (f x)) (ss.foldl (strStep dial) L)
  | [], f, L, _, C => C
  | s :: ss, f, L, h, C => by
    rw [List.foldl_cons]
    exact cov_all ss (fun x => s.step dial (f x)) (strStep dial L s) (fun x hx => h x (List.mem_cons_of_mem _ hx)) (cov_step (h s List.mem_cons_self) C)
theorem cov_str {dial : Int} {ss : List Stg} (h : ∀ s ∈ ss, ∀ a b, s = .pass a b → a ≤ b) : Cov (fun x => lastT dial ss (some x)) (strAt dial ss) := cov_all ss (fun x => some x) _ h cov_start
end Kx

set_option Elab.async false
set_option linter.all false
set_option maxRecDepth 100000
set_option maxHeartbeats 4000000
namespace Kx
open PySem PySem.Spec PyProof.Rows L2 HX
/-! ### slopes of tones, whatever makes them -/
/-- by how much the tone goes up from a signal to the next one; 0 where one of both is silent, or ahead of 0 -/
def stepF (f : Int → Option Int) (x : Int) : Int := if x < 0 then 0 else match f x, f (x + 1) with
  | some a, some b => b - a
  | _, _ => 0
theorem step_some {f : Int → Option Int} {x a b : Int} (h : 0 ≤ x) (ha : f x = some a) (hb : f (x + 1) = some b) : stepF f x = b - a := by
  unfold stepF
  rw [if_neg (by omega), ha, hb]
theorem step_cases (f : Int → Option Int) (x : Int) : stepF f x = 0 ∨ ∃ a b, 0 ≤ x ∧ f x = some a ∧ f (x + 1) = some b ∧ stepF f x = b - a := by
  unfold stepF
  split
  · exact .inl rfl
  · cases ha : f x with
    | none => exact .inl rfl
    | some a =>
      cases hb : f (x + 1) with
      | none => exact .inl rfl
      | some b => exact .inr ⟨a, b, by omega, rfl, rfl, rfl⟩
/-- a slope of the tones f -/
structure IsSl (f : Int → Option Int) (t : Sx) : Prop where
  w : Wy t
  lo : 0 ≤ t.lo
  lt : ∀ g, t.hi = some g → t.lo < g
  val : ∀ x, inS t x → f x = some (valS t x)
  left : stepF f (t.lo - 1) ≠ t.way
  right : ∀ g, t.hi = some g → stepF f g ≠ t.way
namespace IsSl
variable {f : Int → Option Int} {t u : Sx}
theorem first (h : IsSl f t) : inS t t.lo ∧ inS t (t.lo + 1) := ⟨⟨Int.le_refl _, fun g e => Int.le_of_lt (h.lt g e)⟩, by omega, fun g e => h.lt g e⟩
theorem step (h : IsSl f t) {x : Int} (h1 : inS t x) (h2 : inS t (x + 1)) : stepF f x = t.way := by
  rw [step_some (Int.le_trans h.lo h1.1) (h.val x h1) (h.val _ h2)]
  unfold valS
  rw [show x + 1 - t.lo = (x - t.lo) + 1 by omega, Int.mul_add]
  omega
theorem num (h : IsSl f t) : f t.lo = some t.num := by
  rw [h.val _ h.first.1]
  unfold valS
  rw [Int.sub_self, Int.mul_zero, Int.add_zero]
/-- two slopes share no more than an end -/
theorem sep (h : IsSl f t) (k : IsSl f u) (lt : t.lo < u.lo) : ∃ g, t.hi = some g ∧ g ≤ u.lo := by
  have key : ¬ inS t (u.lo + 1) := fun i => by
    have i0 : inS t u.lo := ⟨by omega, fun g e => by have := i.2 g e; omega⟩
    have i1 : inS t (u.lo - 1) := ⟨by omega, fun g e => by have := i.2 g e; omega⟩
    have s1 := h.step i0 i
    have s2 := h.step i1 (by rw [Int.sub_add_cancel]; exact i0)
    have s3 := k.step k.first.1 k.first.2
    exact k.left (by rw [s2, ← s3, s1])
  cases hh : t.hi with
  | none => exact absurd ⟨by omega, fun g e => by rw [hh] at e; cases e⟩ key
  | some g =>
    refine ⟨g, rfl, ?_⟩
    by_cases z : g ≤ u.lo
    · exact z
    · exact absurd ⟨by omega, fun g' e => by rw [hh] at e; cases e; omega⟩ key
/-- two slopes with one beginning are one -/
theorem uniq (h : IsSl f t) (k : IsSl f u) (e : t.lo = u.lo) : t = u := by
  have n1 := h.num
  rw [e, k.num] at n1
  have w1 := h.step h.first.1 h.first.2
  rw [e, k.step k.first.1 k.first.2] at w1
  have hi : t.hi = u.hi := by
    cases ht : t.hi with
    | none =>
      cases hu : u.hi with
      | none => rfl
      | some g =>
        exfalso
        have lt := k.lt g hu
        exact k.right g hu (by rw [w1]; exact h.step ⟨by omega, fun g' z => by rw [ht] at z; cases z⟩ ⟨by omega, fun g' z => by rw [ht] at z; cases z⟩)
    | some g =>
      have lt := h.lt g ht
      cases hu : u.hi with
      | none => exact absurd (by rw [← w1]; exact k.step ⟨by omega, fun g' z => by rw [hu] at z; cases z⟩ ⟨by omega, fun g' z => by rw [hu] at z; cases z⟩) (h.right g ht)
      | some g' =>
        have lt' := k.lt g' hu
        rcases Int.lt_trichotomy g g' with z | z | z
        · exact absurd (by rw [← w1]; exact k.step ⟨by omega, fun q z => by rw [hu] at z; cases z; omega⟩ ⟨by omega, fun q z => by rw [hu] at z; cases z; omega⟩) (h.right g ht)
        · rw [z]
        · exact absurd (by rw [w1]; exact h.step ⟨by omega, fun q z => by rw [ht] at z; cases z; omega⟩ ⟨by omega, fun q z => by rw [ht] at z; cases z; omega⟩) (k.right g' hu)
  obtain ⟨a1, a2, a3, a4⟩ := t
  obtain ⟨b1, b2, b3, b4⟩ := u
  dsimp only at e hi n1 w1
  cases n1
  subst e hi w1
  rfl
/-- two slopes that share two neighbours are one -/
theorem uniq2 (h : IsSl f t) (k : IsSl f u) {x : Int} (h1 : inS t x) (h2 : inS t (x + 1)) (k1 : inS u x) (k2 : inS u (x + 1)) : t = u := by
  refine h.uniq k ?_
  rcases Int.lt_trichotomy t.lo u.lo with z | z | z
  · obtain ⟨g, e, l⟩ := h.sep k z
    have := h2.2 g e
    have := k1.1
    omega
  · exact z
  · obtain ⟨g, e, l⟩ := k.sep h z
    have := k2.2 g e
    have := h1.1
    omega
end IsSl
theorem pw_mem {α : Type} {R : α → α → Prop} {L : List α} (h : L.Pairwise R) {a b : α} (ha : a ∈ L) (hb : b ∈ L) : a = b ∨ R a b ∨ R b a := by
  induction L with
  | nil => cases ha
  | cons x L ih =>
    obtain ⟨h1, h2⟩ := List.pairwise_cons.mp h
    rcases List.mem_cons.mp ha with za | ha'
    · rcases List.mem_cons.mp hb with zb | hb'
      · exact .inl (za.trans zb.symm)
      · exact .inr (.inl (za ▸ h1 b hb'))
    · rcases List.mem_cons.mp hb with zb | hb'
      · exact .inr (.inr (zb ▸ h1 a ha'))
      · exact ih h2 ha' hb'
namespace Cov
variable {f : Int → Option Int} {L : List Sx}
theorem step (C : Cov f L) {s : Sx} (hs : s ∈ L) {x : Int} (h1 : inS s x) (h2 : inS s (x + 1)) : stepF f x = s.way := by
  rw [step_some (Int.le_trans (C.lo s hs) h1.1) (C.val s hs x h1) (C.val s hs _ h2)]
  unfold valS
  rw [show x + 1 - s.lo = (x - s.lo) + 1 by omega, Int.mul_add]
  omega
theorem long2 {s : Sx} {x : Int} (h1 : inS s x) (h2 : inS s (x + 1)) : Long s := fun z => by
  have := h2.2 _ z
  have := h1.1
  omega
/-- long stretches that touch turn; so each is as long as possible -/
theorem isl (C : Cov f L) {t : Sx} (ht : t ∈ L) (lt : Long t) : IsSl f t := by
  have lt' : ∀ g, t.hi = some g → t.lo < g := fun g e => long_of lt e (C.ord t ht g e)
  have w := C.w t ht
  have lo := C.lo t ht
  have wne : t.way ≠ 0 := by rcases w with z | z <;> rw [z] <;> decide
  have first : inS t t.lo := ⟨Int.le_refl _, fun g e => Int.le_of_lt (lt' g e)⟩
  refine ⟨w, lo, lt', C.val t ht, fun z => ?_, fun g hg z => ?_⟩
  · rcases step_cases f (t.lo - 1) with h | ⟨a, b, x0, ha, hb, _⟩
    · exact wne (z ▸ h)
    · obtain ⟨s, hs, i, j⟩ := C.two _ x0 a b ha hb
      have sw := C.step hs i j
      rw [Int.sub_add_cancel] at j
      rcases pw_mem C.nx hs ht with rfl | h | h
      · have := i.1
        omega
      · obtain ⟨g, e, l⟩ := h.ah
        have l2 := j.2 g e
        exact h.alt (by rw [e]; congr 1; omega) (long2 i (by rw [Int.sub_add_cancel]; exact j)) lt (sw.symm.trans z)
      · obtain ⟨g, e, l⟩ := h.ah
        have := lt' g e
        have := i.1
        omega
  · rcases step_cases f g with h | ⟨a, b, x0, ha, hb, _⟩
    · exact wne (z ▸ h)
    · obtain ⟨s, hs, i, j⟩ := C.two _ x0 a b ha hb
      have sw := C.step hs i j
      have l0 := lt' g hg
      rcases pw_mem C.nx hs ht with rfl | h | h
      · have := j.2 g hg
        omega
      · obtain ⟨g', e, l⟩ := h.ah
        have := j.2 g' e
        omega
      · obtain ⟨g', e, l⟩ := h.ah
        rw [hg] at e
        cases e
        have := i.1
        exact h.alt (by rw [hg]; congr 1; omega) lt (long2 i j) (z.symm.trans sw)
theorem has (C : Cov f L) {x : Int} (h : stepF f x ≠ 0) : ∃ s ∈ L, Long s ∧ inS s x ∧ inS s (x + 1) := by
  rcases step_cases f x with z | ⟨a, b, x0, ha, hb, _⟩
  · exact absurd z h
  · obtain ⟨s, hs, i, j⟩ := C.two _ x0 a b ha hb
    exact ⟨s, hs, long2 i j, i, j⟩
end Cov
/-- what holds of a receiver's stages, as stage numbers go -/
def PassOk (ss : List Stg) : Prop := ∀ s ∈ ss, ∀ a b, s = .pass a b → a ≤ b
theorem mem_slopes {dial : Int} {ss : List Stg} {t : Sx} : t ∈ slopesOf dial ss ↔ t ∈ strAt dial ss ∧ Long t := by
  unfold slopesOf Long
  rw [List.mem_filter]
  simp
def mixF (dial : Int) (ss : List Stg) (x : Int) : Option Int := lastT dial ss (some x)
theorem mixed_isl {dial : Int} {ss : List Stg} (h : PassOk ss) {t : Sx} (ht : t ∈ slopesOf dial ss) : IsSl (mixF dial ss) t := by
  obtain ⟨h1, h2⟩ := mem_slopes.mp ht
  exact (cov_str h).isl h1 h2
theorem mixed_has {dial : Int} {ss : List Stg} (h : PassOk ss) {x : Int} (hx : stepF (mixF dial ss) x ≠ 0) : ∃ s ∈ slopesOf dial ss, inS s x ∧ inS s (x + 1) := by
  obtain ⟨s, h1, h2, h3, h4⟩ := (cov_str h).has hx
  exact ⟨s, mem_slopes.mpr ⟨h1, h2⟩, h3, h4⟩
end Kx

set_option Elab.async false
set_option linter.all false
set_option maxRecDepth 100000
set_option maxHeartbeats 4000000
namespace Kx
/-! ### spans: numbers told by their remainders -/
def bI (b : Bool) : Int := if b then 1 else 0
def spB (sp : List (Int × Int)) (m : Int) : Bool := sp.any fun s => decide (s.1 ≤ m) && decide (m ≤ s.2)
structure SpOk (per : Int) (sp : List (Int × Int)) : Prop where
  pos : 0 < per
  rng : ∀ s ∈ sp, 0 ≤ s.1 ∧ s.1 ≤ s.2 ∧ s.2 < per
  asc : sp.Pairwise fun s t => s.2 < t.1
def spLen (sp : List (Int × Int)) : Int := (sp.map fun s => s.2 - s.1 + 1).sum
def spRest (sp : List (Int × Int)) (rest : Int) : Int := (sp.map fun s => mxI 0 (mnI (s.2 + 1) rest - s.1)).sum
def cbl (sp : List (Int × Int)) (per e : Int) : Int := e / per * spLen sp + spRest sp (e % per)
theorem spB_iff {sp : List (Int × Int)} {m : Int} : spB sp m = true ↔ ∃ s ∈ sp, s.1 ≤ m ∧ m ≤ s.2 := by
  unfold spB
  rw [List.any_eq_true]
  constructor
  · rintro ⟨s, h1, h2⟩
    rw [Bool.and_eq_true, decide_eq_true_iff, decide_eq_true_iff] at h2
    exact ⟨s, h1, h2⟩
  · rintro ⟨s, h1, h2, h3⟩
    exact ⟨s, h1, by rw [Bool.and_eq_true, decide_eq_true_iff, decide_eq_true_iff]; exact ⟨h2, h3⟩⟩
theorem spLen_cons (s : Int × Int) (sp : List (Int × Int)) : spLen (s :: sp) = s.2 - s.1 + 1 + spLen sp := by simp [spLen]
theorem spRest_cons (s : Int × Int) (sp : List (Int × Int)) (r : Int) : spRest (s :: sp) r = mxI 0 (mnI (s.2 + 1) r - s.1) + spRest sp r := by simp [spRest]
theorem spB_cons (s : Int × Int) (sp : List (Int × Int)) (m : Int) : spB (s :: sp) m = (decide (s.1 ≤ m) && decide (m ≤ s.2) || spB sp m) := rfl
theorem rest_zero {sp : List (Int × Int)} (h : ∀ s ∈ sp, 0 ≤ s.1 ∧ s.1 ≤ s.2) : spRest sp 0 = 0 := by
  induction sp with
  | nil => rfl
  | cons s sp ih =>
    rw [spRest_cons, ih fun t ht => h t (List.mem_cons_of_mem _ ht)]
    have := h s List.mem_cons_self
    unfold mxI mnI
    split <;> split <;> omega
theorem rest_full {per : Int} {sp : List (Int × Int)} (h : ∀ s ∈ sp, 0 ≤ s.1 ∧ s.1 ≤ s.2 ∧ s.2 < per) : spRest sp per = spLen sp := by
  induction sp with
  | nil => rfl
  | cons s sp ih =>
    rw [spRest_cons, spLen_cons, ih fun t ht => h t (List.mem_cons_of_mem _ ht)]
    have := h s List.mem_cons_self
    unfold mxI mnI
    split <;> split <;> omega
theorem rest_succ {sp : List (Int × Int)} (h : ∀ s ∈ sp, s.1 ≤ s.2) (a : sp.Pairwise fun s t => s.2 < t.1) (r : Int) : spRest sp (r + 1) = spRest sp r + bI (spB sp r) := by
  induction sp with
  | nil => rfl
  | cons s sp ih =>
    obtain ⟨a1, a2⟩ := List.pairwise_cons.mp a
    rw [spRest_cons, spRest_cons, ih (fun t ht => h t (List.mem_cons_of_mem _ ht)) a2, spB_cons]
    have h0 := h s List.mem_cons_self
    by_cases c : s.1 ≤ r ∧ r ≤ s.2
    · have e : spB sp r = false := by
        cases q : spB sp r with
        | false => rfl
        | true =>
          obtain ⟨t, ht, h1, _⟩ := spB_iff.mp q
          have := a1 t ht
          omega
      rw [e, decide_eq_true c.1, decide_eq_true c.2]
      show _ + (_ + 0) = _ + _ + 1
      unfold mxI mnI
      (repeat' split) <;> omega
    · have e : (decide (s.1 ≤ r) && decide (r ≤ s.2)) = false := by
        rw [Bool.and_eq_false_iff, decide_eq_false_iff_not, decide_eq_false_iff_not]
        omega
      rw [e, Bool.false_or, ← Int.add_assoc]
      congr 1
      congr 1
      unfold mxI mnI
      (repeat' split) <;> omega
theorem divmod_of {e per q r : Int} (h : e = q * per + r) (r0 : 0 ≤ r) (r1 : r < per) : e / per = q ∧ e % per = r :=
  (Int.ediv_emod_unique (by omega)).mpr ⟨by rw [Int.mul_comm per q]; omega, r0, r1⟩
theorem divmod_at {e per : Int} (h : 0 < per) : e = e / per * per + e % per ∧ 0 ≤ e % per ∧ e % per < per :=
  ⟨by rw [Int.mul_comm]; exact (Int.mul_ediv_add_emod e per).symm, Int.emod_nonneg _ (by omega), Int.emod_lt_of_pos _ h⟩
section
variable {per : Int} {sp : List (Int × Int)}
theorem cbl_zero (k : SpOk per sp) : cbl sp per 0 = 0 := by
  unfold cbl
  rw [Int.zero_ediv, Int.zero_emod, rest_zero fun s hs => ⟨(k.rng s hs).1, (k.rng s hs).2.1⟩]
  simp
theorem cbl_succ (k : SpOk per sp) (e : Int) : cbl sp per (e + 1) = cbl sp per e + bI (spB sp (e % per)) := by
  obtain ⟨h1, h2, h3⟩ := divmod_at (e := e) k.pos
  have hs := rest_succ (fun s hs => (k.rng s hs).2.1) k.asc (e % per)
  unfold cbl
  by_cases c : e % per + 1 < per
  · obtain ⟨q1, q2⟩ := divmod_of (e := e + 1) (per := per) (q := e / per) (r := e % per + 1) (by omega) (by omega) c
    rw [q1, q2, hs]
    omega
  · obtain ⟨q1, q2⟩ := divmod_of (e := e + 1) (per := per) (q := e / per + 1) (r := 0) (by rw [Int.add_mul]; omega) (by omega) k.pos
    have hf := rest_full k.rng
    rw [show e % per + 1 = per by omega, hf] at hs
    rw [q1, q2, rest_zero fun s hs => ⟨(k.rng s hs).1, (k.rng s hs).2.1⟩, Int.add_mul, hs]
    omega
theorem bI_nn (b : Bool) : 0 ≤ bI b := by cases b <;> decide
theorem cbl_mono (k : SpOk per sp) {a : Int} : ∀ (n : Nat), cbl sp per a ≤ cbl sp per (a + n)
  | 0 => by rw [Int.natCast_zero, Int.add_zero]; exact Int.le_refl _
  | n + 1 => by
    have h1 := cbl_mono k (a := a) n
    have h2 := cbl_succ k (a + n)
    have h3 := bI_nn (spB sp ((a + n) % per))
    rw [show a + ((n + 1 : Nat) : Int) = a + n + 1 by omega]
    omega
theorem cbl_le (k : SpOk per sp) {a b : Int} (h : a ≤ b) : cbl sp per a ≤ cbl sp per b := by
  have := cbl_mono k (a := a) (b - a).toNat
  rwa [show a + ((b - a).toNat : Int) = b by omega] at this
theorem cbl_nn (k : SpOk per sp) {a : Int} (h : 0 ≤ a) : 0 ≤ cbl sp per a := by
  have := cbl_le k h
  rwa [cbl_zero k] at this
theorem spLen_nn (h : ∀ s ∈ sp, s.1 ≤ s.2) : 0 ≤ spLen sp := by
  induction sp with
  | nil => exact Int.le_refl _
  | cons s sp ih =>
    rw [spLen_cons]
    have := h s List.mem_cons_self
    have := ih fun t ht => h t (List.mem_cons_of_mem _ ht)
    omega
theorem cbl_per (k : SpOk per sp) : cbl sp per per = spLen sp := by
  unfold cbl
  rw [Int.ediv_self (by have := k.pos; omega), Int.emod_self, rest_zero fun s hs => ⟨(k.rng s hs).1, (k.rng s hs).2.1⟩]
  simp
theorem spLen_pos (k : SpOk per sp) (h : sp ≠ []) : 0 < spLen sp := by
  cases sp with
  | nil => exact absurd rfl h
  | cons s sp =>
    rw [spLen_cons]
    have := (k.rng s List.mem_cons_self).2.1
    have := spLen_nn (sp := sp) fun t ht => (k.rng t (List.mem_cons_of_mem _ ht)).2.1
    omega
def numLoop (base : Int) : List (Int × Int) → Int → Option Int
  | [], _ => none
  | s :: sp, left => if left ≤ s.2 - s.1 then some (base + s.1 + left) else numLoop base sp (left - (s.2 - s.1 + 1))
def numAt (sp : List (Int × Int)) (per index : Int) : Option Int := numLoop (index / cbl sp per per * per) sp (index % cbl sp per per)
theorem loop_spec {base : Int} : ∀ (sp : List (Int × Int)) (left : Int), (∀ s ∈ sp, 0 ≤ s.1 ∧ s.1 ≤ s.2 ∧ s.2 < per) → (sp.Pairwise fun s t => s.2 < t.1) → 0 ≤ left → left < spLen sp →
    ∃ m, numLoop base sp left = some (base + m) ∧ spB sp m = true ∧ spRest sp m = left ∧ 0 ≤ m ∧ m < per
  | [], left, _, _, h0, h1 => by have : spLen [] = 0 := rfl; omega
  | s :: sp, left, rng, asc, h0, h1 => by
    obtain ⟨a1, a2⟩ := List.pairwise_cons.mp asc
    have r0 := rng s List.mem_cons_self
    unfold numLoop
    by_cases c : left ≤ s.2 - s.1
    · rw [if_pos c]
      refine ⟨s.1 + left, by rw [Int.add_assoc], spB_iff.mpr ⟨s, List.mem_cons_self, by omega, by omega⟩, ?_, by omega, by omega⟩
      have z : ∀ (tp : List (Int × Int)), (∀ t ∈ tp, s.2 < t.1) → spRest tp (s.1 + left) = 0 := by
        intro tp
        induction tp with
        | nil => intro _; rfl
        | cons t tp ih =>
          intro h
          rw [spRest_cons, ih fun u hu => h u (List.mem_cons_of_mem _ hu)]
          have := h t List.mem_cons_self
          unfold mxI mnI
          split <;> split <;> omega
      rw [spRest_cons, z sp a1]
      unfold mxI mnI
      split <;> split <;> omega
    · rw [if_neg c]
      rw [spLen_cons] at h1
      obtain ⟨m, m1, m2, m3, m4, m5⟩ := loop_spec (base := base) sp (left - (s.2 - s.1 + 1)) (fun t ht => rng t (List.mem_cons_of_mem _ ht)) a2 (by omega) (by omega)
      obtain ⟨t, ht, u1, u2⟩ := spB_iff.mp m2
      refine ⟨m, m1, by rw [spB_cons, m2, Bool.or_true], ?_, m4, m5⟩
      rw [spRest_cons, m3]
      have := a1 t ht
      unfold mxI mnI
      split <;> split <;> omega
theorem numAt_spec (k : SpOk per sp) (ne : sp ≠ []) {i : Int} (i0 : 0 ≤ i) : ∃ x, numAt sp per i = some x ∧ 0 ≤ x ∧ spB sp (x % per) = true ∧ cbl sp per x = i := by
  have hp := spLen_pos k ne
  unfold numAt
  rw [cbl_per k]
  obtain ⟨h1, h2, h3⟩ := divmod_at (e := i) hp
  obtain ⟨m, m1, m2, m3, m4, m5⟩ := loop_spec (per := per) (base := i / spLen sp * per) sp (i % spLen sp) k.rng k.asc h2 h3
  obtain ⟨q1, q2⟩ := divmod_of (e := i / spLen sp * per + m) rfl m4 m5
  have i2 : 0 ≤ i / spLen sp := Int.ediv_nonneg i0 (by omega)
  refine ⟨_, m1, ?_, by rw [q2]; exact m2, ?_⟩
  · have := Int.mul_nonneg i2 (by have := k.pos; omega : (0:Int) ≤ per)
    omega
  · unfold cbl
    rw [q1, q2, m3]
    omega
end
end Kx

set_option Elab.async false
set_option linter.all false
set_option maxRecDepth 100000
set_option maxHeartbeats 4000000
namespace Kx
/-! ### pieces: numbers of a stretch, told by remainders -/
structure Pc where
  lo : Int
  hi : Option Int
  sp : List (Int × Int)
  per : Int
def hiB (h : Option Int) (x : Int) : Bool := match h with | none => true | some g => decide (x ≤ g)
def inB (p : Pc) (x : Int) : Bool := decide (p.lo ≤ x) && hiB p.hi x && spB p.sp (x % p.per)
def hasB (ps : List Pc) (x : Int) : Bool := ps.any fun p => inB p x
structure PcOk (p : Pc) : Prop where
  sp : SpOk p.per p.sp
  lo : 0 ≤ p.lo
  hi : ∀ g, p.hi = some g → p.lo ≤ g + 1
def PAh (p q : Pc) : Prop := ∃ g, p.hi = some g ∧ g < q.lo
structure PsOk (ps : List Pc) : Prop where
  ok : ∀ p ∈ ps, PcOk p
  asc : ps.Pairwise PAh
theorem inB_iff {p : Pc} {x : Int} : inB p x = true ↔ p.lo ≤ x ∧ (∀ g, p.hi = some g → x ≤ g) ∧ spB p.sp (x % p.per) = true := by
  unfold inB hiB
  rw [Bool.and_eq_true, Bool.and_eq_true, decide_eq_true_iff, and_assoc]
  refine and_congr_right fun _ => and_congr_left fun _ => ?_
  cases p.hi with
  | none => exact ⟨fun _ g e => (by cases e), fun _ => rfl⟩
  | some g => exact decide_eq_true_iff.trans ⟨fun h g' e => (by cases e; exact h), fun h => h g rfl⟩
theorem hasB_iff {ps : List Pc} {x : Int} : hasB ps x = true ↔ ∃ p ∈ ps, inB p x = true := by
  unfold hasB
  rw [List.any_eq_true]
def endTo (h : Option Int) (far : Int) : Int := match h with | none => far | some g => mnI g far
def cto (far : Int) (p : Pc) : Int := if p.lo ≤ far then cbl p.sp p.per (endTo p.hi far + 1) - cbl p.sp p.per p.lo else 0
def countTo (ps : List Pc) (far : Int) : Int := (ps.map (cto far)).sum
theorem countTo_cons (p : Pc) (ps : List Pc) (far : Int) : countTo (p :: ps) far = cto far p + countTo ps far := by simp [countTo]
theorem cto_low {p : Pc} {far : Int} (h : far < p.lo) : cto far p = 0 := by unfold cto; rw [if_neg (by omega)]
theorem cto_succ {p : Pc} (k : PcOk p) (far : Int) : cto (far + 1) p = cto far p + bI (inB p (far + 1)) := by
  by_cases c : p.lo ≤ far + 1
  · by_cases hi : ∀ g, p.hi = some g → far + 1 ≤ g
    · have e1 : endTo p.hi (far + 1) = far + 1 := by
        unfold endTo
        cases hh : p.hi with
        | none => rfl
        | some g => have := hi g hh; unfold mnI; dsimp only; split <;> omega
      have e2 : endTo p.hi far = far := by
        unfold endTo
        cases hh : p.hi with
        | none => rfl
        | some g => have := hi g hh; unfold mnI; dsimp only; split <;> omega
      have e3 : inB p (far + 1) = spB p.sp ((far + 1) % p.per) := by
        cases q : spB p.sp ((far + 1) % p.per) with
        | true => exact inB_iff.mpr ⟨c, hi, q⟩
        | false =>
          cases r : inB p (far + 1) with
          | false => rfl
          | true => rw [(inB_iff.mp r).2.2] at q; cases q
      have e4 := cbl_succ k.sp (far + 1)
      unfold cto
      rw [if_pos c, e1, e2, e3]
      by_cases d : p.lo ≤ far
      · rw [if_pos d]
        omega
      · rw [if_neg d, show p.lo = far + 1 by omega]
        omega
    · have e3 : inB p (far + 1) = false := by
        cases r : inB p (far + 1) with
        | false => rfl
        | true => exact absurd (inB_iff.mp r).2.1 hi
      rw [e3]
      show _ = _ + 0
      have : ∃ g, p.hi = some g ∧ g < far + 1 := by
        cases hh : p.hi with
        | none => exact absurd (fun g e => by rw [hh] at e; cases e) hi
        | some g =>
          refine ⟨g, rfl, ?_⟩
          refine Classical.byContradiction fun z => hi fun g' e => ?_
          rw [hh] at e
          cases e
          omega
      obtain ⟨g, hg, lt⟩ := this
      have hl := k.hi g hg
      unfold cto endTo
      rw [hg, if_pos c]
      dsimp only
      rw [show mnI g (far + 1) = g by unfold mnI; split <;> omega]
      by_cases d : p.lo ≤ far
      · rw [if_pos d, show mnI g far = g by unfold mnI; split <;> omega]
        omega
      · rw [if_neg d, show g + 1 = p.lo by omega]
        omega
  · rw [cto_low (by omega), cto_low (by omega)]
    have e3 : inB p (far + 1) = false := by
      cases r : inB p (far + 1) with
      | false => rfl
      | true => exact absurd (inB_iff.mp r).1 c
    rw [e3]
    rfl
theorem ah_not {p : Pc} {ps : List Pc} (a : ∀ q ∈ ps, PAh p q) {x : Int} (h : inB p x = true) : hasB ps x = false := by
  cases r : hasB ps x with
  | false => rfl
  | true =>
    obtain ⟨q, hq, h2⟩ := hasB_iff.mp r
    obtain ⟨g, hg, lt⟩ := a q hq
    have h3 := (inB_iff.mp h).2.1 g hg
    have h4 := (inB_iff.mp h2).1
    omega
theorem PsOk.tail {p : Pc} {ps : List Pc} (k : PsOk (p :: ps)) : PsOk ps := ⟨fun q hq => k.ok q (List.mem_cons_of_mem _ hq), (List.pairwise_cons.mp k.asc).2⟩
theorem PsOk.ah {p : Pc} {ps : List Pc} (k : PsOk (p :: ps)) : ∀ q ∈ ps, PAh p q := (List.pairwise_cons.mp k.asc).1
theorem countTo_succ {ps : List Pc} (k : PsOk ps) (far : Int) : countTo ps (far + 1) = countTo ps far + bI (hasB ps (far + 1)) := by
  induction ps with
  | nil => rfl
  | cons p ps ih =>
    rw [countTo_cons, countTo_cons, cto_succ (k.ok p List.mem_cons_self), ih k.tail]
    show _ = _ + bI (inB p (far + 1) || hasB ps (far + 1))
    cases h : inB p (far + 1) with
    | true =>
      rw [ah_not k.ah h]
      show _ + 1 + (_ + 0) = _ + 1
      omega
    | false =>
      rw [Bool.false_or]
      show _ + 0 + _ = _
      omega
theorem countTo_low {ps : List Pc} {far : Int} (h : ∀ p ∈ ps, far < p.lo) : countTo ps far = 0 := by
  induction ps with
  | nil => rfl
  | cons p ps ih => rw [countTo_cons, cto_low (h p List.mem_cons_self), ih fun q hq => h q (List.mem_cons_of_mem _ hq)]; rfl
/-- how many x from 0 on below n there are -/
def cnt (P : Int → Bool) : Nat → Int
  | 0 => 0
  | n + 1 => cnt P n + bI (P n)
theorem countTo_cnt {ps : List Pc} (k : PsOk ps) : ∀ n : Nat, countTo ps ((n : Int) - 1) = cnt (hasB ps) n
  | 0 => countTo_low fun p hp => by have := (k.ok p hp).lo; omega
  | n + 1 => by
    have := countTo_succ k ((n : Int) - 1)
    rw [show (n : Int) - 1 + 1 = n by omega, countTo_cnt k n] at this
    rw [show ((n + 1 : Nat) : Int) - 1 = n by omega, this]
    rfl
theorem cnt_succ (P : Int → Bool) (n : Nat) : cnt P (n + 1) = cnt P n + bI (P n) := rfl
theorem cnt_congr {P R : Int → Bool} (h : ∀ x, 0 ≤ x → P x = R x) : ∀ n, cnt P n = cnt R n
  | 0 => rfl
  | n + 1 => by rw [cnt_succ, cnt_succ, cnt_congr h n, h _ (by omega)]
theorem cnt_mono (P : Int → Bool) {m n : Nat} (h : m ≤ n) : cnt P m ≤ cnt P n := by
  induction h with
  | refl => exact Int.le_refl _
  | @step k _ ih => exact Int.le_trans ih (by have := bI_nn (P (k : Int)); rw [cnt_succ]; omega)
theorem cnt_nn (P : Int → Bool) (n : Nat) : 0 ≤ cnt P n := cnt_mono P (Nat.zero_le n)
theorem cnt_lt {P : Int → Bool} {m n : Nat} (h : m < n) (p : P m = true) : cnt P m < cnt P n := by
  have h1 := cnt_mono P (show m + 1 ≤ n from h)
  rw [cnt_succ, p] at h1
  have : bI true = 1 := rfl
  omega
/-! the number with an index -/
def placeAlong (p : Pc) (i : Int) : Option Int := numAt p.sp p.per (cbl p.sp p.per p.lo + i)
def countAlong (p : Pc) : Option Int := match p.hi with
  | none => if p.sp = [] then some 0 else none
  | some g => some (cbl p.sp p.per (g + 1) - cbl p.sp p.per p.lo)
def placeAt : List Pc → Int → Option Int
  | [], _ => none
  | p :: ps, left => match countAlong p with
    | none => placeAlong p left
    | some m => if left < m then placeAlong p left else placeAt ps (left - m)
theorem cto_all {p : Pc} (k : PcOk p) {g far : Int} (h : p.hi = some g) (hf : g ≤ far) : cto far p = cbl p.sp p.per (g + 1) - cbl p.sp p.per p.lo := by
  have := k.hi g h
  unfold cto endTo
  rw [h]
  dsimp only
  by_cases c : p.lo ≤ far
  · rw [if_pos c, show mnI g far = g by unfold mnI; split <;> omega]
  · rw [if_neg c, show g + 1 = p.lo by omega]
    omega
theorem cto_le {p : Pc} (k : PcOk p) {g : Int} (h : p.hi = some g) (far : Int) : cto far p ≤ cbl p.sp p.per (g + 1) - cbl p.sp p.per p.lo := by
  have h1 := k.hi g h
  have h2 := cbl_le k.sp h1
  unfold cto endTo
  rw [h]
  dsimp only
  by_cases c : p.lo ≤ far
  · rw [if_pos c]
    have := cbl_le k.sp (show mnI g far + 1 ≤ g + 1 by unfold mnI; split <;> omega)
    omega
  · rw [if_neg c]
    omega
/-- in a piece whose numbers are more than i, the place is right -/
theorem along_spec {p : Pc} (k : PcOk p) {i : Int} (i0 : 0 ≤ i) (ne : p.sp ≠ []) (lt : ∀ g, p.hi = some g → i < cbl p.sp p.per (g + 1) - cbl p.sp p.per p.lo) :
    ∃ x, placeAlong p i = some x ∧ inB p x = true ∧ cto (x - 1) p = i := by
  have c0 := cbl_nn k.sp k.lo
  obtain ⟨x, h1, h2, h3, h4⟩ := numAt_spec k.sp ne (show 0 ≤ cbl p.sp p.per p.lo + i by omega)
  have s := cbl_succ k.sp x
  rw [h3] at s
  have : bI true = 1 := rfl
  have l1 : p.lo ≤ x := Classical.byContradiction fun z => by
    have := cbl_le k.sp (show x + 1 ≤ p.lo by omega)
    omega
  have l2 : ∀ g, p.hi = some g → x ≤ g := fun g hg => Classical.byContradiction fun z => by
    have := cbl_le k.sp (show g + 1 ≤ x by omega)
    have := lt g hg
    omega
  refine ⟨x, h1, inB_iff.mpr ⟨l1, l2, h3⟩, ?_⟩
  by_cases c : p.lo = x
  · rw [cto_low (by omega)]
    rw [c] at h4
    omega
  · have e : endTo p.hi (x - 1) = x - 1 := by
      unfold endTo
      cases hh : p.hi with
      | none => rfl
      | some g => have := l2 g hh; unfold mnI; dsimp only; split <;> omega
    unfold cto
    rw [if_pos (by omega), e, show x - 1 + 1 = x by omega]
    omega
theorem placeAt_spec : ∀ (ps : List Pc) (i : Int), PsOk ps → 0 ≤ i →
    (∃ x, placeAt ps i = some x ∧ hasB ps x = true ∧ countTo ps (x - 1) = i) ∨ (placeAt ps i = none ∧ ∀ far, countTo ps far ≤ i)
  | [], i, _, i0 => .inr ⟨rfl, fun _ => i0⟩
  | p :: ps, i, k, i0 => by
    have kp := k.ok p List.mem_cons_self
    have zero : ∀ x, inB p x = true → countTo ps (x - 1) = 0 := fun x h => countTo_low fun q hq => by
      obtain ⟨g, hg, lt⟩ := k.ah q hq
      have := (inB_iff.mp h).2.1 g hg
      omega
    have here : p.sp ≠ [] → (∀ g, p.hi = some g → i < cbl p.sp p.per (g + 1) - cbl p.sp p.per p.lo) → ∃ x, placeAlong p i = some x ∧ hasB (p :: ps) x = true ∧ countTo (p :: ps) (x - 1) = i := fun ne lt => by
      obtain ⟨x, h1, h2, h3⟩ := along_spec kp i0 ne lt
      exact ⟨x, h1, hasB_iff.mpr ⟨p, List.mem_cons_self, h2⟩, by rw [countTo_cons, h3, zero x h2, Int.add_zero]⟩
    have emp : p.sp = [] → ∀ e, cbl p.sp p.per e = 0 := fun e x => by rw [e]; simp [cbl, spLen, spRest]
    unfold placeAt countAlong
    cases hh : p.hi with
    | none =>
      dsimp only
      by_cases ne : p.sp = []
      · rw [if_pos ne]
        dsimp only
        rw [if_neg (by omega), Int.sub_zero]
        have ze : ∀ far, cto far p = 0 := fun far => by
          unfold cto
          rw [emp ne, emp ne]
          split <;> rfl
        rcases placeAt_spec ps i k.tail i0 with ⟨x, h1, h2, h3⟩ | ⟨h1, h2⟩
        · refine .inl ⟨x, h1, ?_, by rw [countTo_cons, ze, h3, Int.zero_add]⟩
          obtain ⟨q, hq, h⟩ := hasB_iff.mp h2
          exact hasB_iff.mpr ⟨q, List.mem_cons_of_mem _ hq, h⟩
        · exact .inr ⟨h1, fun far => by rw [countTo_cons, ze, Int.zero_add]; exact h2 far⟩
      · rw [if_neg ne]
        exact .inl (here ne fun g e => by rw [hh] at e; cases e)
    | some g =>
      dsimp only
      by_cases c : i < cbl p.sp p.per (g + 1) - cbl p.sp p.per p.lo
      · rw [if_pos c]
        refine .inl (here (fun ne => ?_) fun g' e => by rw [hh] at e; cases e; exact c)
        rw [emp ne, emp ne] at c
        omega
      · rw [if_neg c]
        rcases placeAt_spec ps (i - (cbl p.sp p.per (g + 1) - cbl p.sp p.per p.lo)) k.tail (by omega) with ⟨x, h1, h2, h3⟩ | ⟨h1, h2⟩
        · obtain ⟨q, hq, h⟩ := hasB_iff.mp h2
          refine .inl ⟨x, h1, hasB_iff.mpr ⟨q, List.mem_cons_of_mem _ hq, h⟩, ?_⟩
          obtain ⟨g', hg', lt⟩ := k.ah q hq
          rw [hh] at hg'
          cases hg'
          rw [countTo_cons, h3, cto_all kp hh (show g ≤ x - 1 by have := (inB_iff.mp h).1; omega)]
          omega
        · refine .inr ⟨h1, fun far => ?_⟩
          rw [countTo_cons]
          have := cto_le kp hh far
          have := h2 far
          omega
def firstFrom (ps : List Pc) (x : Int) : Option Int := placeAt ps (countTo ps (x - 1))
def lastTo (ps : List Pc) (x : Int) : Option Int := if countTo ps x = 0 then none else placeAt ps (countTo ps x - 1)
/-! what is told of a set of numbers from 0 on -/
def IsNth (P : Int → Bool) (i : Int) (o : Option Int) : Prop := match o with
  | some x => 0 ≤ x ∧ P x = true ∧ cnt P x.toNat = i
  | none => ∀ n, cnt P n ≤ i
def IsNext (P : Int → Bool) (a : Int) (o : Option Int) : Prop := match o with
  | some x => a ≤ x ∧ P x = true ∧ ∀ y, a ≤ y → y < x → P y = false
  | none => ∀ y, a ≤ y → P y = false
def IsLast (P : Int → Bool) (a : Int) (o : Option Int) : Prop := match o with
  | some x => 0 ≤ x ∧ x ≤ a ∧ P x = true ∧ ∀ y, x < y → y ≤ a → P y = false
  | none => ∀ y, 0 ≤ y → y ≤ a → P y = false
section
variable {ps : List Pc}
theorem countTo_at (k : PsOk ps) {x : Int} (h : -1 ≤ x) : countTo ps x = cnt (hasB ps) (x + 1).toNat := by
  have := countTo_cnt k (x + 1).toNat
  rwa [show (((x + 1).toNat : Nat) : Int) - 1 = x by omega] at this
theorem has_nn (k : PsOk ps) {x : Int} (h : hasB ps x = true) : 0 ≤ x := by
  obtain ⟨p, hp, h⟩ := hasB_iff.mp h
  have := (k.ok p hp).lo
  have := (inB_iff.mp h).1
  omega
theorem placeAt_nth (k : PsOk ps) {i : Int} (i0 : 0 ≤ i) : IsNth (hasB ps) i (placeAt ps i) := by
  rcases placeAt_spec ps i k i0 with ⟨x, h1, h2, h3⟩ | ⟨h1, h2⟩
  · rw [h1]
    have x0 := has_nn k h2
    refine ⟨x0, h2, ?_⟩
    rw [countTo_at k (by omega)] at h3
    rwa [show x - 1 + 1 = x by omega] at h3
  · rw [h1]
    intro n
    have := h2 ((n : Int) - 1)
    rwa [countTo_cnt k] at this
theorem cnt_flat {P : Int → Bool} {m n : Nat} (h : m ≤ n) (e : cnt P n = cnt P m) {y : Int} (h1 : (m : Int) ≤ y) (h2 : y < n) : P y = false := by
  cases q : P y with
  | false => rfl
  | true =>
    have e1 : ((y.toNat : Nat) : Int) = y := by omega
    have := cnt_lt (P := P) (m := y.toNat) (n := n) (by omega) (by rw [e1]; exact q)
    have := cnt_mono P (show m ≤ y.toNat by omega)
    omega
theorem nth_next {P : Int → Bool} {a : Int} {o : Option Int} (a0 : 0 ≤ a) (h : IsNth P (cnt P a.toNat) o) : IsNext P a o := by
  cases o with
  | some x =>
    obtain ⟨x0, hx, e⟩ := h
    have ex : ((x.toNat : Nat) : Int) = x := by omega
    have le : a ≤ x := Classical.byContradiction fun z => by
      have := cnt_lt (P := P) (m := x.toNat) (n := a.toNat) (by omega) (by rw [ex]; exact hx)
      omega
    exact ⟨le, hx, fun y h1 h2 => cnt_flat (m := a.toNat) (n := x.toNat) (by omega) e (by omega) (by omega)⟩
  | none =>
    intro y hy
    have e := h (y + 1).toNat
    have := cnt_mono P (show a.toNat ≤ (y + 1).toNat by omega)
    exact cnt_flat (m := a.toNat) (n := (y + 1).toNat) (by omega) (by omega) (by omega) (by omega)
theorem firstFrom_next (k : PsOk ps) {a : Int} (a0 : 0 ≤ a) : IsNext (hasB ps) a (firstFrom ps a) := by
  unfold firstFrom
  have e := countTo_at k (x := a - 1) (by omega)
  rw [show a - 1 + 1 = a by omega] at e
  rw [e]
  exact nth_next a0 (placeAt_nth k (cnt_nn _ _))
theorem nth_last {P : Int → Bool} {a : Int} {o : Option Int} (a0 : 0 ≤ a) (h0 : cnt P (a + 1).toNat ≠ 0) (h : IsNth P (cnt P (a + 1).toNat - 1) o) : IsLast P a o := by
  cases o with
  | some x =>
    obtain ⟨x0, hx, e⟩ := h
    have ex : ((x.toNat : Nat) : Int) = x := by omega
    have le : x ≤ a := Classical.byContradiction fun z => by
      have := cnt_mono P (show (a + 1).toNat ≤ x.toNat by omega)
      omega
    have s : cnt P (x.toNat + 1) = cnt P x.toNat + 1 := by
      show _ + bI _ = _
      rw [ex, hx]
      rfl
    exact ⟨x0, le, hx, fun y h1 h2 => cnt_flat (m := x.toNat + 1) (n := (a + 1).toNat) (by omega) (by omega) (by omega) (by omega)⟩
  | none =>
    have := h (a + 1).toNat
    omega
theorem lastTo_last (k : PsOk ps) {a : Int} (a0 : 0 ≤ a) : IsLast (hasB ps) a (lastTo ps a) := by
  unfold lastTo
  rw [countTo_at k (by omega)]
  by_cases c : cnt (hasB ps) (a + 1).toNat = 0
  · rw [if_pos c]
    intro y h1 h2
    exact cnt_flat (m := 0) (n := (a + 1).toNat) (by omega) c (by omega) (by omega)
  · rw [if_neg c]
    exact nth_last a0 c (placeAt_nth k (by have := cnt_nn (hasB ps) (a + 1).toNat; omega))
end
/-! they are the only ones -/
theorem nth_uniq {P : Int → Bool} {i : Int} {o u : Option Int} (h : IsNth P i o) (k : IsNth P i u) : o = u := by
  have two : ∀ x y : Int, IsNth P i (some x) → IsNth P i (some y) → ¬ x < y := fun x y ⟨x0, hx, ex⟩ ⟨y0, hy, ey⟩ lt => by
    have := cnt_lt (P := P) (m := x.toNat) (n := y.toNat) (by omega) (by rw [show ((x.toNat : Nat) : Int) = x by omega]; exact hx)
    omega
  have one : ∀ x : Int, IsNth P i (some x) → ¬ IsNth P i none := fun x ⟨x0, hx, ex⟩ n => by
    have h1 := n (x.toNat + 1)
    have h2 := cnt_lt (P := P) (m := x.toNat) (n := x.toNat + 1) (by omega) (by rw [show ((x.toNat : Nat) : Int) = x by omega]; exact hx)
    omega
  cases o with
  | none => cases u with
    | none => rfl
    | some y => exact absurd h (one y k)
  | some x => cases u with
    | none => exact absurd k (one x h)
    | some y =>
      have := two x y h k
      have := two y x k h
      congr 1
      omega
theorem next_uniq {P : Int → Bool} {a : Int} {o u : Option Int} (h : IsNext P a o) (k : IsNext P a u) : o = u := by
  have two : ∀ x y : Int, IsNext P a (some x) → IsNext P a (some y) → ¬ x < y := fun x y ⟨x0, hx, ex⟩ ⟨y0, hy, ey⟩ lt => by
    rw [ey x x0 lt] at hx
    cases hx
  have one : ∀ x : Int, IsNext P a (some x) → ¬ IsNext P a none := fun x ⟨x0, hx, ex⟩ n => by
    rw [n x x0] at hx
    cases hx
  cases o with
  | none => cases u with
    | none => rfl
    | some y => exact absurd h (one y k)
  | some x => cases u with
    | none => exact absurd k (one x h)
    | some y =>
      have := two x y h k
      have := two y x k h
      congr 1
      omega
theorem last_uniq {P : Int → Bool} {a : Int} {o u : Option Int} (h : IsLast P a o) (k : IsLast P a u) : o = u := by
  have two : ∀ x y : Int, IsLast P a (some x) → IsLast P a (some y) → ¬ x < y := fun x y ⟨x0, xa, hx, ex⟩ ⟨y0, ya, hy, ey⟩ lt => by
    rw [ex y lt ya] at hy
    cases hy
  have one : ∀ x : Int, IsLast P a (some x) → ¬ IsLast P a none := fun x ⟨x0, xa, hx, ex⟩ n => by
    rw [n x x0 xa] at hx
    cases hx
  cases o with
  | none => cases u with
    | none => rfl
    | some y => exact absurd h (one y k)
  | some x => cases u with
    | none => exact absurd k (one x h)
    | some y =>
      have := two x y h k
      have := two y x k h
      congr 1
      omega
end Kx

namespace Kx
def sampI (r n : Int) : Int := if r - n % r < n % r then r - n % r else n % r
end Kx

set_option Elab.async false
set_option linter.all false
set_option maxRecDepth 100000
set_option maxHeartbeats 4000000
namespace Kx
open PySem PySem.Spec PyProof.Rows L2 HX
/-! ### the spans of a band; the spans of a stretch -/
def toneSpans (b0 b1 r : Int) : List (Int × Int) :=
  [(b0, mnI b1 (r / 2)), (mxI (r - mnI b1 (r / 2)) (mnI b1 (r / 2) + 1), mnI (r - b0) (r - 1))].filter fun s => decide (s.1 ≤ s.2)
def bandB (b0 b1 : Int) (t : Option Int) : Bool := match t with | none => false | some n => decide (b0 ≤ n) && decide (n ≤ b1)
theorem bandB_some {b0 b1 n : Int} : bandB b0 b1 (some n) = true ↔ b0 ≤ n ∧ n ≤ b1 := by
  unfold bandB
  rw [Bool.and_eq_true, decide_eq_true_iff, decide_eq_true_iff]
theorem spB_filter {l : List (Int × Int)} {m : Int} : spB (l.filter fun s => decide (s.1 ≤ s.2)) m = spB l m := by
  rw [Bool.eq_iff_iff, spB_iff, spB_iff]
  constructor
  · rintro ⟨s, hs, h1, h2⟩
    exact ⟨s, (List.mem_filter.mp hs).1, h1, h2⟩
  · rintro ⟨s, hs, h1, h2⟩
    exact ⟨s, List.mem_filter.mpr ⟨hs, decide_eq_true (by omega)⟩, h1, h2⟩
theorem tone_ok {b0 b1 r : Int} (h0 : 0 ≤ b0) (h1 : b0 ≤ b1) (hr : 2 ≤ r) : SpOk r (toneSpans b0 b1 r) := by
  have mn : ∀ a b : Int, mnI a b = if b < a then b else a := fun _ _ => rfl
  have mx : ∀ a b : Int, mxI a b = if b > a then b else a := fun _ _ => rfl
  refine ⟨by omega, fun s hs => ?_, ?_⟩
  · obtain ⟨h2, h3⟩ := List.mem_filter.mp hs
    have h3 := of_decide_eq_true h3
    rcases List.mem_cons.mp h2 with rfl | h2
    · refine ⟨h0, h3, ?_⟩
      show mnI b1 (r / 2) < r
      rw [mn]
      split <;> omega
    · rw [List.mem_singleton] at h2
      subst h2
      refine ⟨?_, h3, ?_⟩
      · show 0 ≤ mxI (r - mnI b1 (r / 2)) (mnI b1 (r / 2) + 1)
        rw [mx, mn]
        (repeat' split) <;> omega
      · show mnI (r - b0) (r - 1) < r
        rw [mn]
        split <;> omega
  · refine List.Pairwise.filter _ (List.pairwise_cons.mpr ⟨fun t ht => ?_, List.pairwise_singleton _ _⟩)
    rw [List.mem_singleton] at ht
    subst ht
    show mnI b1 (r / 2) < mxI (r - mnI b1 (r / 2)) (mnI b1 (r / 2) + 1)
    generalize mnI b1 (r / 2) = t
    rw [mx]
    split <;> omega
theorem tone_in {b0 b1 r n : Int} (h0 : 0 ≤ b0) (h1 : b0 ≤ b1) (hr : 2 ≤ r) : spB (toneSpans b0 b1 r) (n % r) = bandB b0 b1 (some (sampI r n)) := by
  have e1 := Int.emod_nonneg n (show r ≠ 0 by omega)
  have e2 := Int.emod_lt_of_pos n (show 0 < r by omega)
  have mn : ∀ a b : Int, mnI a b = if b < a then b else a := fun _ _ => rfl
  have mx : ∀ a b : Int, mxI a b = if b > a then b else a := fun _ _ => rfl
  unfold toneSpans
  rw [spB_filter, Bool.eq_iff_iff, spB_iff, bandB_some]
  unfold sampI
  generalize n % r = m at *
  constructor
  · rintro ⟨s, hs, h2, h3⟩
    rcases List.mem_cons.mp hs with rfl | hs
    · have h2 : b0 ≤ m := h2
      have h3 : m ≤ mnI b1 (r / 2) := h3
      rw [mn] at h3
      split at h3 <;> split <;> omega
    · rw [List.mem_singleton] at hs
      subst hs
      have h2 : mxI (r - mnI b1 (r / 2)) (mnI b1 (r / 2) + 1) ≤ m := h2
      have h3 : m ≤ mnI (r - b0) (r - 1) := h3
      rw [mn] at h3
      rw [mx, mn] at h2
      (repeat' split at h2) <;> split at h3 <;> split <;> omega
  · intro h
    by_cases c : m ≤ mnI b1 (r / 2)
    · refine ⟨_, List.mem_cons_self, ?_, c⟩
      show b0 ≤ m
      split at h <;> omega
    · refine ⟨_, List.mem_cons_of_mem _ (List.mem_singleton.mpr rfl), ?_, ?_⟩
      · show mxI (r - mnI b1 (r / 2)) (mnI b1 (r / 2) + 1) ≤ m
        rw [mn] at c
        rw [mx, mn]
        (repeat' split) <;> split at c <;> split at h <;> omega
      · show m ≤ mnI (r - b0) (r - 1)
        rw [mn] at c
        rw [mn]
        split <;> split at c <;> split at h <;> omega
/-- the spans of one interval of numbers -/
def wrap (r : Int) (s : Int × Int) : List (Int × Int) := if s.1 % r + s.2 - s.1 < r then [(s.1 % r, s.1 % r + s.2 - s.1)] else [(s.1 % r, r - 1), (0, s.1 % r + s.2 - s.1 - r)]
theorem wrap_ok {r a b : Int} (hr : 0 < r) (h1 : a ≤ b) (h2 : b - a < r) :
    (∀ s ∈ wrap r (a, b), 0 ≤ s.1 ∧ s.1 ≤ s.2 ∧ s.2 < r) ∧ (∀ x, spB (wrap r (a, b)) (x % r) = true ↔ (x - a) % r ≤ b - a) ∧ (wrap r (a, b)).Pairwise fun s t => ∀ m, s.1 ≤ m → m ≤ s.2 → t.1 ≤ m → m ≤ t.2 → False := by
  have e1 := Int.emod_nonneg a (show r ≠ 0 by omega)
  have e2 := Int.emod_lt_of_pos a (show 0 < r by omega)
  have key : ∀ x, (x - a) % r = if a % r ≤ x % r then x % r - a % r else x % r - a % r + r := fun x => by
    obtain ⟨x1, x2, x3⟩ := divmod_at (e := x) hr
    obtain ⟨a1, a2, a3⟩ := divmod_at (e := a) hr
    split
    · exact (divmod_of (q := x / r - a / r) (by rw [Int.sub_mul]; omega) (by omega) (by omega)).2
    · exact (divmod_of (q := x / r - a / r - 1) (by rw [Int.sub_mul, Int.sub_mul]; omega) (by omega) (by omega)).2
  unfold wrap
  dsimp only
  generalize a % r = s at *
  split
  · rename_i c
    refine ⟨fun t ht => ?_, fun x => ?_, List.pairwise_singleton _ _⟩
    · rw [List.mem_singleton] at ht
      subst ht
      exact ⟨e1, by dsimp only; omega, c⟩
    · have x1 := Int.emod_nonneg x (show r ≠ 0 by omega)
      have x2 := Int.emod_lt_of_pos x hr
      rw [key x, spB_iff]
      constructor
      · rintro ⟨t, ht, h3, h4⟩
        rw [List.mem_singleton] at ht
        subst ht
        dsimp only at h3 h4
        rw [if_pos h3]
        omega
      · intro h
        refine ⟨_, List.mem_singleton.mpr rfl, ?_⟩
        dsimp only
        split at h <;> omega
  · rename_i c
    refine ⟨fun t ht => ?_, fun x => ?_, ?_⟩
    · rcases List.mem_cons.mp ht with rfl | ht
      · exact ⟨e1, by dsimp only; omega, by dsimp only; omega⟩
      · rw [List.mem_singleton] at ht
        subst ht
        exact ⟨Int.le_refl _, by dsimp only; omega, by dsimp only; omega⟩
    · have x1 := Int.emod_nonneg x (show r ≠ 0 by omega)
      have x2 := Int.emod_lt_of_pos x hr
      rw [key x, spB_iff]
      constructor
      · rintro ⟨t, ht, h3, h4⟩
        rcases List.mem_cons.mp ht with rfl | ht
        · dsimp only at h3 h4
          rw [if_pos h3]
          omega
        · rw [List.mem_singleton] at ht
          subst ht
          dsimp only at h3 h4
          rw [if_neg (by omega)]
          omega
      · intro h
        by_cases d : s ≤ x % r
        · exact ⟨_, List.mem_cons_self, d, by dsimp only; omega⟩
        · rw [if_neg d] at h
          exact ⟨_, List.mem_cons_of_mem _ (List.mem_singleton.mpr rfl), by dsimp only; omega, by dsimp only; omega⟩
    · refine List.pairwise_cons.mpr ⟨fun t ht => ?_, List.pairwise_singleton _ _⟩
      rw [List.mem_singleton] at ht
      subst ht
      intro m h3 h4 h5 h6
      dsimp only at *
      omega
/-- two spans share no number -/
def Dj (s t : Int × Int) : Prop := ∀ m, s.1 ≤ m → m ≤ s.2 → t.1 ≤ m → m ≤ t.2 → False
theorem Dj.symm {s t : Int × Int} (h : Dj s t) : Dj t s := fun m a b c d => h m c d a b
theorem sorted_asc {l : List (Int × Int)} (rng : ∀ s ∈ l, s.1 ≤ s.2) (dj : l.Pairwise Dj) (srt : l.Pairwise fun s t => s.1 ≤ t.1) : l.Pairwise fun s t => s.2 < t.1 := by
  induction l with
  | nil => exact List.Pairwise.nil
  | cons s l ih =>
    obtain ⟨d1, d2⟩ := List.pairwise_cons.mp dj
    obtain ⟨s1, s2⟩ := List.pairwise_cons.mp srt
    refine List.pairwise_cons.mpr ⟨fun t ht => ?_, ih (fun t ht => rng t (List.mem_cons_of_mem _ ht)) d2 s2⟩
    have a := s1 t ht
    have b := d1 t ht t.1 a
    have c := rng t (List.mem_cons_of_mem _ ht)
    refine Classical.byContradiction fun z => b (by omega) (Int.le_refl _) c
/-- the signals of a span of numbers, both ends in order -/
def endsOf (s : Sx) (t : Int × Int) : Int × Int := (mnI (sigOf s t.1) (sigOf s t.2), mxI (sigOf s t.1) (sigOf s t.2))
theorem ends_in {s : Sx} {r : Int} {t : Int × Int} (w : Wy s) (hr : 0 < r) (t0 : 0 ≤ t.1) (t1 : t.1 ≤ t.2) (t2 : t.2 < r) :
    (endsOf s t).1 ≤ (endsOf s t).2 ∧ (endsOf s t).2 - (endsOf s t).1 < r ∧ ∀ x, (x - (endsOf s t).1) % r ≤ (endsOf s t).2 - (endsOf s t).1 ↔ t.1 ≤ valS s x % r ∧ valS s x % r ≤ t.2 := by
  have up : ∀ v : Int, (v - t.1) % r = if t.1 ≤ v % r then v % r - t.1 else v % r - t.1 + r := fun v => by
    obtain ⟨x1, x2, x3⟩ := divmod_at (e := v) hr
    split
    · exact (divmod_of (q := v / r) (by omega) (by omega) (by omega)).2
    · exact (divmod_of (q := v / r - 1) (by rw [Int.sub_mul]; omega) (by omega) (by omega)).2
  have dn : ∀ v : Int, (t.2 - v) % r = if v % r ≤ t.2 then t.2 - v % r else t.2 - v % r + r := fun v => by
    obtain ⟨x1, x2, x3⟩ := divmod_at (e := v) hr
    split
    · exact (divmod_of (q := - (v / r)) (by rw [Int.neg_mul]; omega) (by omega) (by omega)).2
    · exact (divmod_of (q := - (v / r) - 1) (by rw [Int.sub_mul, Int.neg_mul]; omega) (by omega) (by omega)).2
  rcases w with w | w
  · have q : ∀ n, sigOf s n = s.lo + (n - s.num) := fun n => by unfold sigOf; rw [w]; omega
    have e1 : (endsOf s t).1 = s.lo + (t.1 - s.num) := by
      show mnI (sigOf s t.1) (sigOf s t.2) = _
      rw [q, q]
      unfold mnI
      split <;> omega
    have e2 : (endsOf s t).2 = s.lo + (t.2 - s.num) := by
      show mxI (sigOf s t.1) (sigOf s t.2) = _
      rw [q, q]
      unfold mxI
      split <;> omega
    refine ⟨by omega, by omega, fun x => ?_⟩
    have ev : valS s x = s.num + (x - s.lo) := by unfold valS; rw [w]; omega
    rw [e1, e2, ev, show x - (s.lo + (t.1 - s.num)) = s.num + (x - s.lo) - t.1 by omega, up]
    have x2 := Int.emod_nonneg (s.num + (x - s.lo)) (show r ≠ 0 by omega)
    have x3 := Int.emod_lt_of_pos (s.num + (x - s.lo)) hr
    split <;> omega
  · have q : ∀ n, sigOf s n = s.lo - (n - s.num) := fun n => by unfold sigOf; rw [w]; omega
    have e1 : (endsOf s t).1 = s.lo - (t.2 - s.num) := by
      show mnI (sigOf s t.1) (sigOf s t.2) = _
      rw [q, q]
      unfold mnI
      split <;> omega
    have e2 : (endsOf s t).2 = s.lo - (t.1 - s.num) := by
      show mxI (sigOf s t.1) (sigOf s t.2) = _
      rw [q, q]
      unfold mxI
      split <;> omega
    refine ⟨by omega, by omega, fun x => ?_⟩
    have ev : valS s x = s.num - (x - s.lo) := by unfold valS; rw [w]; omega
    rw [e1, e2, ev, show x - (s.lo - (t.2 - s.num)) = t.2 - (s.num - (x - s.lo)) by omega, dn]
    have x2 := Int.emod_nonneg (s.num - (x - s.lo)) (show r ≠ 0 by omega)
    have x3 := Int.emod_lt_of_pos (s.num - (x - s.lo)) hr
    split <;> omega
/-- the signals' spans along a stretch, before they are sorted -/
def flatS (s : Sx) (r : Int) (sps : List (Int × Int)) : List (Int × Int) := sps.flatMap fun t => wrap r (endsOf s t)
theorem flat_ok {s : Sx} {r : Int} {sps out : List (Int × Int)} (w : Wy s) (k : SpOk r sps) (p : out.Perm (flatS s r sps)) (srt : out.Pairwise fun s t => s.1 ≤ t.1) :
    SpOk r out ∧ ∀ x, spB out (x % r) = spB sps (valS s x % r) := by
  have hr := k.pos
  have W := fun t (ht : t ∈ sps) => by
    obtain ⟨t0, t1, t2⟩ := k.rng t ht
    obtain ⟨e1, e2, e3⟩ := ends_in (s := s) w hr t0 t1 t2
    exact And.intro (wrap_ok hr e1 e2) e3
  have mem : ∀ x, spB (flatS s r sps) (x % r) = spB sps (valS s x % r) := fun x => by
    rw [Bool.eq_iff_iff]
    constructor
    · intro h
      obtain ⟨u, hu, u1, u2⟩ := spB_iff.mp h
      obtain ⟨t, ht, hu⟩ := List.mem_flatMap.mp hu
      have := ((W t ht).1.2.1 x).mp (spB_iff.mpr ⟨u, hu, u1, u2⟩)
      exact spB_iff.mpr ⟨t, ht, ((W t ht).2 x).mp this⟩
    · intro h
      obtain ⟨t, ht, h⟩ := spB_iff.mp h
      obtain ⟨u, hu, h⟩ := spB_iff.mp (((W t ht).1.2.1 x).mpr (((W t ht).2 x).mpr h))
      exact spB_iff.mpr ⟨u, List.mem_flatMap.mpr ⟨t, ht, hu⟩, h⟩
  have rng : ∀ u ∈ flatS s r sps, 0 ≤ u.1 ∧ u.1 ≤ u.2 ∧ u.2 < r := fun u hu => by
    obtain ⟨t, ht, hu⟩ := List.mem_flatMap.mp hu
    exact (W t ht).1.1 u hu
  have dj : (flatS s r sps).Pairwise Dj := by
    have key : ∀ l : List (Int × Int), (∀ t ∈ l, t ∈ sps) → l.Pairwise (fun s t => s.2 < t.1) → (l.flatMap fun t => wrap r (endsOf s t)).Pairwise Dj := by
      intro l
      induction l with
      | nil => intro _ _; exact List.Pairwise.nil
      | cons t l ih =>
        intro sub a
        obtain ⟨a1, a2⟩ := List.pairwise_cons.mp a
        rw [List.flatMap_cons, List.pairwise_append]
        refine ⟨(W t (sub t List.mem_cons_self)).1.2.2, ih (fun x hx => sub x (List.mem_cons_of_mem _ hx)) a2, fun u hu v hv m m1 m2 m3 m4 => ?_⟩
        obtain ⟨t', ht', hv⟩ := List.mem_flatMap.mp hv
        have ht := sub t List.mem_cons_self
        have ht2 := sub t' (List.mem_cons_of_mem _ ht')
        have mr := (W t ht).1.1 u hu
        have em : m % r = m := Int.emod_eq_of_lt (by omega) (by omega)
        have h1 := ((W t ht).2 m).mp (((W t ht).1.2.1 m).mp (spB_iff.mpr ⟨u, hu, by rw [em]; exact ⟨m1, m2⟩⟩))
        have h2 := ((W t' ht2).2 m).mp (((W t' ht2).1.2.1 m).mp (spB_iff.mpr ⟨v, hv, by rw [em]; exact ⟨m3, m4⟩⟩))
        have := a1 t' ht'
        omega
    exact key sps (fun _ h => h) k.asc
  refine ⟨⟨hr, fun u hu => rng u (p.mem_iff.mp hu), sorted_asc (fun u hu => (rng u (p.mem_iff.mp hu)).2.1) ((p.pairwise_iff (fun h => Dj.symm h)).mpr dj) srt⟩, fun x => ?_⟩
  rw [← mem x, Bool.eq_iff_iff, spB_iff, spB_iff]
  exact ⟨fun ⟨u, h1, h2⟩ => ⟨u, p.mem_iff.mp h1, h2⟩, fun ⟨u, h1, h2⟩ => ⟨u, p.mem_iff.mpr h1, h2⟩⟩
end Kx

set_option Elab.async false
set_option linter.all false
set_option maxRecDepth 100000
set_option maxHeartbeats 4000000
namespace Kx
open PySem PySem.Spec PyProof.Rows L2 HX
/-! ### stretches without shared signals -/
def parted : List Sx → List Sx
  | [] => []
  | [s] => [s]
  | s :: t :: r => (if s.hi = some t.lo then { s with hi := some (t.lo - 1) } else s) :: parted (t :: r)
def PAhS (s t : Sx) : Prop := ∃ g, s.hi = some g ∧ g < t.lo
structure Par (f : Int → Option Int) (L : List Sx) : Prop where
  w : ∀ s ∈ L, Wy s
  lo : ∀ s ∈ L, 0 ≤ s.lo
  ord : ∀ s ∈ L, ∀ g, s.hi = some g → s.lo ≤ g + 1
  up : ∀ s ∈ L, s.hi = none → s.way = 1
  val : ∀ s ∈ L, ∀ x, inS s x → f x = some (valS s x)
  all : ∀ x, 0 ≤ x → ∀ n, f x = some n → ∃ s ∈ L, inS s x
  sep : L.Pairwise PAhS
/-- t is s, perhaps without its last signal -/
structure PartOf (s t : Sx) : Prop where
  lo : t.lo = s.lo
  num : t.num = s.num
  way : t.way = s.way
  hi : t.hi = s.hi ∨ ∃ g, s.hi = some g ∧ t.hi = some (g - 1)
theorem PartOf.refl (s : Sx) : PartOf s s := ⟨rfl, rfl, rfl, .inl rfl⟩
theorem part_cut {s t : Sx} (h : s.hi = some t.lo) : PartOf s { s with hi := some (t.lo - 1) } := ⟨rfl, rfl, rfl, .inr ⟨t.lo, h, rfl⟩⟩
theorem PartOf.sub {s t : Sx} (h : PartOf s t) {x : Int} (i : inS t x) : inS s x ∧ valS t x = valS s x := by
  obtain ⟨h1, h2⟩ := i
  refine ⟨⟨by rw [← h.lo]; exact h1, fun g hg => ?_⟩, by unfold valS; rw [h.num, h.way, h.lo]⟩
  rcases h.hi with e | ⟨g', e1, e2⟩
  · exact h2 g (by rw [e, hg])
  · rw [hg] at e1
    cases e1
    have := h2 _ e2
    omega
theorem parted_mem : ∀ {L : List Sx} {t : Sx}, t ∈ parted L → ∃ s ∈ L, PartOf s t
  | [], _, h => nomatch h
  | [s], t, h => ⟨s, List.mem_cons_self, by rw [List.mem_singleton.mp h]; exact .refl s⟩
  | s :: u :: r, t, h => by
    rcases List.mem_cons.mp h with rfl | h
    · refine ⟨s, List.mem_cons_self, ?_⟩
      split
      · rename_i e
        exact part_cut e
      · exact .refl s
    · obtain ⟨s', h1, h2⟩ := parted_mem h
      exact ⟨s', List.mem_cons_of_mem _ h1, h2⟩
theorem parted_len : ∀ L : List Sx, (parted L).length = L.length
  | [] => rfl
  | [s] => rfl
  | s :: u :: r => by
    show (parted (u :: r)).length + 1 = _
    rw [parted_len]
    rfl
theorem parted_all : ∀ {L : List Sx} {s : Sx} {x : Int}, (∀ s ∈ L, ∀ g, s.hi = some g → s.lo ≤ g) → s ∈ L → inS s x → ∃ t ∈ parted L, inS t x
  | [s'], s, x, _, h, i => ⟨s, by rw [List.mem_singleton.mp h]; exact List.mem_singleton.mpr rfl, i⟩
  | s' :: u :: r, s, x, o, h, i => by
    have tail : ∀ s ∈ u :: r, inS s x → ∃ t ∈ parted (s' :: u :: r), inS t x := fun s hs i => by
      obtain ⟨t, h1, h2⟩ := parted_all (fun z hz => o z (List.mem_cons_of_mem _ hz)) hs i
      exact ⟨t, List.mem_cons_of_mem _ h1, h2⟩
    rcases List.mem_cons.mp h with rfl | h
    · by_cases e : s.hi = some u.lo
      · by_cases c : x = u.lo
        · exact tail u List.mem_cons_self ⟨by omega, fun g hg => by have := o u (by simp) g hg; omega⟩
        · refine ⟨{ s with hi := some (u.lo - 1) }, ?_, i.1, fun g hg => ?_⟩
          · show _ ∈ (if _ then _ else _) :: _
            rw [if_pos e]
            exact List.mem_cons_self
          · cases hg
            have := i.2 _ e
            omega
      · refine ⟨s, ?_, i⟩
        show _ ∈ (if _ then _ else _) :: _
        rw [if_neg e]
        exact List.mem_cons_self
    · exact tail s h i
theorem parted_sep : ∀ {L : List Sx}, (∀ s ∈ L, ∀ g, s.hi = some g → s.lo ≤ g) → L.Pairwise Ahead → (parted L).Pairwise PAhS
  | [], _, _ => List.Pairwise.nil
  | [s], _, _ => List.pairwise_singleton _ _
  | s :: u :: r, o, a => by
    obtain ⟨a1, a2⟩ := List.pairwise_cons.mp a
    obtain ⟨b1, b2⟩ := List.pairwise_cons.mp a2
    refine List.pairwise_cons.mpr ⟨fun t ht => ?_, parted_sep (fun z hz => o z (List.mem_cons_of_mem _ hz)) a2⟩
    obtain ⟨t0, h1, h2⟩ := parted_mem ht
    have le : u.lo ≤ t.lo := by
      rw [h2.lo]
      rcases List.mem_cons.mp h1 with rfl | h1
      · exact Int.le_refl _
      · obtain ⟨g, e, l⟩ := b1 t0 h1
        have := o u (by simp) g e
        omega
    obtain ⟨g, e, l⟩ := a1 u List.mem_cons_self
    split
    · exact ⟨_, rfl, by omega⟩
    · rename_i c
      have : g ≠ u.lo := fun z => c (by rw [e, z])
      exact ⟨g, e, by omega⟩
theorem par_of {f : Int → Option Int} {L : List Sx} (C : Cov f L) : Par f (parted L) := by
  refine ⟨fun t ht => ?_, fun t ht => ?_, fun t ht g hg => ?_, fun t ht hg => ?_, fun t ht x i => ?_, fun x x0 n hn => ?_, parted_sep C.ord (C.nx.imp fun h => h.ah)⟩
  · obtain ⟨s, hs, p⟩ := parted_mem ht
    have := C.w s hs
    unfold Wy at this ⊢
    rwa [p.way]
  · obtain ⟨s, hs, p⟩ := parted_mem ht
    rw [p.lo]
    exact C.lo s hs
  · obtain ⟨s, hs, p⟩ := parted_mem ht
    rw [p.lo]
    rcases p.hi with e | ⟨g', e1, e2⟩
    · have := C.ord s hs g (by rw [← e, hg])
      omega
    · rw [e2] at hg
      cases hg
      have := C.ord s hs g' e1
      omega
  · obtain ⟨s, hs, p⟩ := parted_mem ht
    rw [p.way]
    rcases p.hi with e | ⟨g', e1, e2⟩
    · exact C.up s hs (by rw [← e, hg])
    · rw [e2] at hg
      cases hg
  · obtain ⟨s, hs, p⟩ := parted_mem ht
    obtain ⟨i1, e⟩ := p.sub i
    rw [C.val s hs x i1, e]
  · obtain ⟨s, hs, i⟩ := C.all x x0 n hn
    exact parted_all C.ord hs i
/-! ### the pieces of stretches -/
/-- p has of the signals of s those whose numbers are in g -/
structure PcOf (r : Int) (g : Int → Bool) (s : Sx) (p : Pc) : Prop where
  lo : p.lo = s.lo
  hi : p.hi = s.hi
  per : p.per = r
  sp : SpOk r p.sp
  mem : ∀ x, spB p.sp (x % r) = g (valS s x)
inductive Pcs (r : Int) (g : Int → Bool) : List Sx → List Pc → Prop where
  | nil : Pcs r g [] []
  | cons {s : Sx} {p : Pc} {L : List Sx} {ps : List Pc} : PcOf r g s p → Pcs r g L ps → Pcs r g (s :: L) (p :: ps)
theorem Pcs.get {r : Int} {g : Int → Bool} {L : List Sx} {ps : List Pc} (h : Pcs r g L ps) : (∀ p ∈ ps, ∃ s ∈ L, PcOf r g s p) ∧ ∀ s ∈ L, ∃ p ∈ ps, PcOf r g s p := by
  induction h with
  | nil => exact ⟨fun _ h => (nomatch h), fun _ h => (nomatch h)⟩
  | cons h _ ih =>
    refine ⟨fun p hp => ?_, fun s hs => ?_⟩
    · rcases List.mem_cons.mp hp with rfl | hp
      · exact ⟨_, List.mem_cons_self, h⟩
      · obtain ⟨s, h1, h2⟩ := ih.1 p hp
        exact ⟨s, List.mem_cons_of_mem _ h1, h2⟩
    · rcases List.mem_cons.mp hs with rfl | hs
      · exact ⟨_, List.mem_cons_self, h⟩
      · obtain ⟨p, h1, h2⟩ := ih.2 s hs
        exact ⟨p, List.mem_cons_of_mem _ h1, h2⟩
def onB (g : Int → Bool) (o : Option Int) : Bool := match o with | none => false | some v => g v
theorem pieces_ok {f : Int → Option Int} {L : List Sx} {r : Int} {g : Int → Bool} {ps : List Pc} (P : Par f L) (h : Pcs r g L ps) : PsOk ps ∧ ∀ x, 0 ≤ x → hasB ps x = onB g (f x) := by
  refine ⟨⟨fun p hp => ?_, ?_⟩, fun x x0 => ?_⟩
  · obtain ⟨s, hs, k⟩ := h.get.1 p hp
    exact ⟨by rw [k.per]; exact k.sp, by rw [k.lo]; exact P.lo s hs, fun g hg => by rw [k.lo]; exact P.ord s hs g (by rw [← k.hi, hg])⟩
  · have sep := P.sep
    clear P
    induction h with
    | nil => exact List.Pairwise.nil
    | @cons s p L ps k h' ih =>
      obtain ⟨a1, a2⟩ := List.pairwise_cons.mp sep
      refine List.pairwise_cons.mpr ⟨fun q hq => ?_, ih a2⟩
      obtain ⟨t, ht, k2⟩ := h'.get.1 q hq
      obtain ⟨g, e, l⟩ := a1 t ht
      exact ⟨g, by rw [k.hi, e], by rw [k2.lo]; exact l⟩
  · have one : ∀ {s p}, PcOf r g s p → s ∈ L → inS s x → inB p x = onB g (f x) := fun {s p} k hs i => by
      rw [P.val s hs x i]
      show inB p x = g (valS s x)
      rw [← k.mem, Bool.eq_iff_iff, inB_iff, k.lo, k.hi, k.per]
      exact ⟨fun h => h.2.2, fun h => ⟨i.1, i.2, h⟩⟩
    have ins : ∀ {s p}, PcOf r g s p → inB p x = true → inS s x := fun {s p} k h => by
      obtain ⟨h1, h2, _⟩ := inB_iff.mp h
      exact ⟨by rw [← k.lo]; exact h1, fun g hg => h2 g (by rw [k.hi, hg])⟩
    rw [Bool.eq_iff_iff, hasB_iff]
    constructor
    · rintro ⟨p, hp, h1⟩
      obtain ⟨s, hs, k⟩ := h.get.1 p hp
      rw [← one k hs (ins k h1)]
      exact h1
    · intro h1
      cases hf : f x with
      | none => rw [hf] at h1; cases h1
      | some v =>
        obtain ⟨s, hs, i⟩ := P.all x x0 v hf
        obtain ⟨p, hp, k⟩ := h.get.2 s hs
        exact ⟨p, hp, by rw [one k hs i]; exact h1⟩
theorem all_ok {r : Int} (hr : 1 ≤ r) : SpOk r [(0, r - 1)] ∧ ∀ x, spB [(0, r - 1)] (x % r) = true := by
  refine ⟨⟨by omega, fun s hs => ?_, List.pairwise_singleton _ _⟩, fun x => ?_⟩
  · rw [List.mem_singleton] at hs
    subst hs
    exact ⟨Int.le_refl _, by dsimp only; omega, by dsimp only; omega⟩
  · have e1 := Int.emod_nonneg x (show r ≠ 0 by omega)
    have e2 := Int.emod_lt_of_pos x (show 0 < r by omega)
    exact spB_iff.mpr ⟨_, List.mem_singleton.mpr rfl, e1, by dsimp only; omega⟩
/-! the part of the stretches in a band -/
theorem cutS_any {s : Sx} {a b : Int} :
    (∀ p, cutS s a (some b) = some p → p.way = s.way ∧ (∃ e, p.hi = some e ∧ p.lo ≤ e) ∧ (∀ x, inS p x ↔ inS s x ∧ a ≤ x ∧ x ≤ b) ∧ ∀ x, valS p x = valS s x) ∧
    (cutS s a (some b) = none → ∀ x, inS s x → ¬ (a ≤ x ∧ x ≤ b)) := by
  have top : ∃ l, topOf s.hi (some b) = some l ∧ ∀ x, x ≤ l ↔ (∀ g, s.hi = some g → x ≤ g) ∧ x ≤ b := by
    cases hh : s.hi with
    | none => exact ⟨b, rfl, fun x => ⟨fun h => ⟨fun g e => (by cases e), h⟩, fun h => h.2⟩⟩
    | some g =>
      unfold topOf
      dsimp only
      split
      · exact ⟨b, rfl, fun x => ⟨fun h => ⟨fun g' e => (by cases e; omega), h⟩, fun h => h.2⟩⟩
      · exact ⟨g, rfl, fun x => ⟨fun h => ⟨fun g' e => (by cases e; exact h), by omega⟩, fun h => h.1 g rfl⟩⟩
  obtain ⟨l, hl, hx⟩ := top
  have mx : ∀ x, mxI s.lo a ≤ x ↔ s.lo ≤ x ∧ a ≤ x := fun x => by
    show (if a > s.lo then a else s.lo) ≤ x ↔ _
    split <;> omega
  unfold cutS
  rw [hl]
  dsimp only
  by_cases lt : l < mxI s.lo a
  · rw [if_pos lt]
    refine ⟨(fun p e => nomatch e), fun _ x i z => ?_⟩
    have h1 := (mx x).mpr ⟨i.1, z.1⟩
    have h2 := (hx x).mpr ⟨i.2, z.2⟩
    omega
  · rw [if_neg lt]
    refine ⟨fun p e => ?_, (fun e => nomatch e)⟩
    cases e
    refine ⟨rfl, ⟨l, rfl, by dsimp only; omega⟩, fun x => ⟨fun i => ?_, fun i => ?_⟩, fun x => ?_⟩
    · have h1 := (mx x).mp i.1
      have h2 := (hx x).mp (i.2 l rfl)
      exact ⟨⟨h1.1, h2.1⟩, h1.2, h2.2⟩
    · exact ⟨(mx x).mpr ⟨i.1.1, i.2.1⟩, fun g e => (by cases e; exact (hx x).mpr ⟨i.1.2, i.2.2⟩)⟩
    · unfold valS
      dsimp only
      rw [Int.mul_sub, Int.mul_sub, Int.mul_sub]
      omega
theorem cutN_any {s : Sx} {low high : Int} (w : Wy s) (h : low ≤ high) :
    (∀ p, cutN s low high = some p → p.way = s.way ∧ (∃ e, p.hi = some e ∧ p.lo ≤ e) ∧ (∀ x, inS p x ↔ inS s x ∧ low ≤ valS s x ∧ valS s x ≤ high) ∧ ∀ x, valS p x = valS s x) ∧
    (cutN s low high = none → ∀ x, inS s x → ¬ (low ≤ valS s x ∧ valS s x ≤ high)) := by
  obtain ⟨k1, k2⟩ := cutS_any (s := s) (a := mnI (sigOf s low) (sigOf s high)) (b := mxI (sigOf s low) (sigOf s high))
  refine ⟨fun p e => ?_, fun e x i z => k2 e x i ((sig_val w h).mpr z)⟩
  obtain ⟨q1, q2, q3, q4⟩ := k1 p e
  exact ⟨q1, q2, fun x => (q3 x).trans (and_congr_right fun _ => sig_val w h), q4⟩
def cutF (low high : Int) (f : Int → Option Int) (x : Int) : Option Int := match f x with
  | none => none
  | some v => if low ≤ v ∧ v ≤ high then some v else none
theorem par_cut {f : Int → Option Int} {L : List Sx} {low high : Int} (P : Par f L) (h : low ≤ high) : Par (cutF low high f) (L.filterMap fun s => cutN s low high) := by
  have M : ∀ p ∈ L.filterMap (fun s => cutN s low high), ∃ s ∈ L, cutN s low high = some p ∧ p.way = s.way ∧ (∃ e, p.hi = some e ∧ p.lo ≤ e) ∧ (∀ x, inS p x ↔ inS s x ∧ low ≤ valS s x ∧ valS s x ≤ high) ∧ (∀ x, valS p x = valS s x) ∧ s.lo ≤ p.lo := fun p hp => by
    obtain ⟨s, hs, e⟩ := List.mem_filterMap.mp hp
    obtain ⟨q1, ⟨e', h1, h2⟩, q3, q4⟩ := (cutN_any (P.w s hs) h).1 p e
    exact ⟨s, hs, e, q1, ⟨e', h1, h2⟩, q3, q4, ((q3 p.lo).mp ⟨Int.le_refl _, fun g z => (by rw [h1] at z; cases z; exact h2)⟩).1.1⟩
  refine ⟨fun p hp => ?_, fun p hp => ?_, fun p hp g hg => ?_, fun p hp hg => ?_, fun p hp x i => ?_, fun x x0 n hn => ?_, ?_⟩
  · obtain ⟨s, hs, _, q1, _⟩ := M p hp
    have := P.w s hs
    unfold Wy at this ⊢
    rwa [q1]
  · obtain ⟨s, hs, _, _, _, _, _, l⟩ := M p hp
    have := P.lo s hs
    omega
  · obtain ⟨s, hs, _, _, ⟨e, h1, h2⟩, _⟩ := M p hp
    rw [h1] at hg
    cases hg
    omega
  · obtain ⟨s, hs, _, _, ⟨e, h1, h2⟩, _⟩ := M p hp
    rw [h1] at hg
    cases hg
  · obtain ⟨s, hs, _, _, _, q3, q4, _⟩ := M p hp
    obtain ⟨i1, i2⟩ := (q3 x).mp i
    unfold cutF
    rw [P.val s hs x i1]
    dsimp only
    rw [if_pos i2, q4]
  · unfold cutF at hn
    cases hf : f x with
    | none => rw [hf] at hn; cases hn
    | some v =>
      rw [hf] at hn
      dsimp only at hn
      split at hn
      · rename_i c
        obtain ⟨s, hs, i⟩ := P.all x x0 v hf
        have hv := P.val s hs x i
        rw [hf] at hv
        cases hv
        cases hc : cutN s low high with
        | none => exact absurd c ((cutN_any (P.w s hs) h).2 hc x i)
        | some p => exact ⟨p, List.mem_filterMap.mpr ⟨s, hs, hc⟩, (((cutN_any (P.w s hs) h).1 p hc).2.2.1 x).mpr ⟨i, c⟩⟩
      · cases hn
  · have key : ∀ l : List Sx, (∀ s ∈ l, s ∈ L) → l.Pairwise PAhS → (l.filterMap fun s => cutN s low high).Pairwise PAhS := by
      intro l
      induction l with
      | nil => intro _ _; exact List.Pairwise.nil
      | cons s l ih =>
        intro sub a
        obtain ⟨a1, a2⟩ := List.pairwise_cons.mp a
        have ih := ih (fun x hx => sub x (List.mem_cons_of_mem _ hx)) a2
        rw [List.filterMap_cons]
        split
        · exact ih
        · rename_i p hc
          refine List.pairwise_cons.mpr ⟨fun q hq => ?_, ih⟩
          obtain ⟨t, ht, e⟩ := List.mem_filterMap.mp hq
          obtain ⟨g, eg, lg⟩ := a1 t ht
          obtain ⟨_, ⟨e1, h1, h2⟩, q3, _⟩ := (cutN_any (P.w s (sub s List.mem_cons_self)) h).1 p hc
          obtain ⟨_, ⟨e2, h3, h4⟩, q5, _⟩ := (cutN_any (P.w t (sub t (List.mem_cons_of_mem _ ht))) h).1 q e
          have i1 := ((q3 e1).mp ⟨h2, fun g z => (by rw [h1] at z; cases z; exact Int.le_refl _)⟩).1.2 g eg
          have i2 := ((q5 q.lo).mp ⟨Int.le_refl _, fun g z => (by rw [h3] at z; cases z; exact h4)⟩).1.1
          exact ⟨e1, h1, by omega⟩
    exact key L (fun _ h => h) P.sep
/-- which numbers a sampler, or none, takes into a band -/
def inBand (b0 b1 : Int) : Option Int → Int → Bool
  | none, v => bandB b0 b1 (some v)
  | some r, v => bandB b0 b1 (some (sampI r v))
theorem cut_on {b0 b1 : Int} {f : Int → Option Int} {x : Int} : onB (fun _ => true) (cutF b0 b1 f x) = onB (inBand b0 b1 none) (f x) := by
  unfold cutF
  cases f x with
  | none => rfl
  | some v =>
    dsimp only
    by_cases c : b0 ≤ v ∧ v ≤ b1
    · rw [if_pos c]
      exact (bandB_some.mpr c).symm
    · rw [if_neg c]
      cases q : bandB b0 b1 (some v) with
      | true => exact absurd (bandB_some.mp q) c
      | false => exact q.symm
end Kx

set_option Elab.async false
set_option linter.all false
set_option maxRecDepth 100000
set_option maxHeartbeats 4000000

namespace Kx
open PySem PySem.Spec PyProof.Rows L2 HX
open Evl (Ex)
local macro_rules | `(tactic| walk_at "side") => `(tactic| first | assumption | ((try dsimp only); first | assumption | decide +kernel | omega | exact ⟨by decide, by decide⟩ | (left; decide) | (left; omega) | (refine Or.inl ⟨?_, ?_⟩ <;> omega) | (refine Or.inr ⟨?_, ?_⟩ <;> omega)))
local macro_rules | `(tactic| walk_at "heap") => `(tactic| first | assumption | exact upd_same | exact Or.inl (by assumption) | exact Or.inl upd_same)
local macro_rules | `(tactic| walk_at "item") => `(tactic| first | exact rfl | exact atI_nat (j := 0) rfl | exact atI_nat (j := 1) rfl | exact atI_nat (j := 2) rfl | assumption)
local macro_rules | `(tactic| walk_at "rd") => `(tactic| repeat (first
  | ((with_reducible refine' go_var ?hv ?_); (case hv => exact rfl))
  | with_reducible refine' go_c ?_
  | with_reducible refine' go_op ?_
  | with_reducible refine' go_seq ?_
  | with_reducible refine' go_asg ?_
  | with_reducible refine' go_name ?_
  | with_reducible refine' go_cons ?_
  | with_reducible refine' go_nil ?_
  | with_reducible refine' go_cb ?_
  | with_reducible refine' go_call ?_
  | with_reducible refine' go_ifS ?_
  | with_reducible refine' go_test ?_
  | with_reducible refine' go_bl ?_
  | with_reducible refine' go_ret ?_
  | with_reducible refine' go_I0 ?_
  | ((with_reducible refine' go_I ?cc ?_); (case cc => walk_at "side"))
  | ((with_reducible refine' go_ixL ?hh ?hk ?_); (case hh => walk_at "heap"); (case hk => walk_at "item"))
  | ((with_reducible refine' go_ixT ?hh ?hk ?_); (case hh => walk_at "heap"); (case hk => walk_at "item"))
  | ((with_reducible refine' go_lenL ?hh ?_); (case hh => walk_at "heap"))
  | ((with_reducible refine' go_lenT ?hh ?_); (case hh => walk_at "heap"))
  | ((with_reducible refine' go_setL ?hh ?hk ?_); (case hh => walk_at "heap"); (case hk => walk_at "item"))
  | with_reducible refine' go_abs ?_
  | with_reducible refine' go_max ?_
  | with_reducible refine' go_min ?_
  | with_reducible refine' go_int ?_
  | with_reducible refine' go_intB ?_
  | (with_reducible refine' go_eq rfl ?_)
  | (with_reducible refine' go_ne rfl ?_)
  | with_reducible refine' go_isN ?_
  | with_reducible refine' go_notN ?_
  | with_reducible refine' go_if ?_
  | with_reducible refine' go_sub ?_
  | with_reducible refine' go_par ?_
  | with_reducible refine' go_sl ?_
  | with_reducible refine' go_part ?_
  | with_reducible refine' go_pint ?_
  | with_reducible refine' go_nopart ?_
  | ((with_reducible refine' go_lenL ?hh ?_); (case hh => walk_at "heap"))
  | ((with_reducible refine' go_lenT ?hh ?_); (case hh => walk_at "heap"))
  | ((with_reducible refine' go_lenS ?hh ?_); (case hh => assumption))
  | with_reducible refine' go_gcons ?_
  | with_reducible refine' go_gnil ?_
  | with_reducible refine' go_kw ?_
  | with_reducible refine' go_par2 ?_
  | with_reducible refine' go_next ?_
  | with_reducible refine' go_drop ?_
  | with_reducible refine' go_and ?_
  | with_reducible refine' go_or ?_
  | with_reducible refine' go_not ?_
  | with_reducible refine' go_B ?_
  | with_reducible refine' go_andV ?_
  | with_reducible refine' go_orV ?_
  | with_reducible refine' go_notV ?_
  | with_reducible refine' go_chain ?_
  | with_reducible refine' go_un ?_
  | with_reducible refine' go_U ?_
  | with_reducible refine' go_bm ?_
  | with_reducible refine' go_tup ?_
  | with_reducible refine' go_lst ?_
  | with_reducible refine' go_forR1 ?_
  | with_reducible refine' go_forR2 ?_
  | with_reducible refine' go_forL ?_
  | with_reducible refine' go_forT ?_
  | with_reducible refine' go_forE ?_
  | with_reducible refine' go_lcR1 ?_
  | with_reducible refine' go_lcL ?_
  | with_reducible refine' go_lcT ?_
  | ((with_reducible refine' go_tyL ?hh ?_); (case hh => walk_at "heap"))
  | ((with_reducible refine' go_new ?hz ?_); (case hz => exact Nat.le_of_ble_eq_true rfl))
  | (with_reducible refine' ⟨_, rfl, ?_⟩)
  ))
--MACEND
/-! ### lists of what a relation tells -/
structure Al {α : Type} (R : Hp → V → α → Prop) (H : Hp) (xs : List V) (as : List α) : Prop where
  len : xs.length = as.length
  get : ∀ (i : Nat) (v : V), xs[i]? = some v → ∃ a, as[i]? = some a ∧ R H v a
section
variable {α : Type} {R : Hp → V → α → Prop} {H H' : Hp} {xs : List V} {as : List α}
theorem Al.nil : Al R H [] [] := ⟨rfl, fun i v h => by simp at h⟩
theorem Al.imp (f : ∀ v a, R H v a → R H' v a) (t : Al R H xs as) : Al R H' xs as := ⟨t.len, fun i v h => let ⟨s, h1, h2⟩ := t.get i v h; ⟨s, h1, f _ _ h2⟩⟩
theorem Al.to {S : Hp → V → α → Prop} (f : ∀ v a, R H v a → S H' v a) (t : Al R H xs as) : Al S H' xs as := ⟨t.len, fun i v h => let ⟨s, h1, h2⟩ := t.get i v h; ⟨s, h1, f _ _ h2⟩⟩
theorem Al.snoc {v : V} {a : α} (t : Al R H xs as) (h : R H v a) : Al R H (xs ++ [v]) (as ++ [a]) := by
  refine ⟨by rw [List.length_append, List.length_append, t.len]; rfl, fun i u hu => ?_⟩
  by_cases c : i < xs.length
  · rw [List.getElem?_append_left c] at hu
    obtain ⟨s, h1, h2⟩ := t.get i u hu
    exact ⟨s, by rw [List.getElem?_append_left (by rw [← t.len]; exact c)]; exact h1, h2⟩
  · rw [List.getElem?_append_right (by omega)] at hu
    obtain ⟨k, hk⟩ : ∃ k, i - xs.length = k := ⟨_, rfl⟩
    rw [hk] at hu
    cases k with
    | zero =>
      simp at hu
      subst hu
      exact ⟨a, by rw [List.getElem?_append_right (by rw [← t.len]; omega), ← t.len, hk]; rfl, h⟩
    | succ k => simp at hu
theorem Al.at {i : Nat} {a : α} (t : Al R H xs as) (h : as[i]? = some a) : ∃ v, xs[i]? = some v ∧ R H v a := by
  have lt : i < xs.length := by
    rw [t.len]
    exact (List.getElem?_eq_some_iff.mp h).1
  obtain ⟨b, h1, h2⟩ := t.get i xs[i] (List.getElem?_eq_getElem lt)
  rw [h] at h1
  cases h1
  exact ⟨_, List.getElem?_eq_getElem lt, h2⟩
theorem Al.mem {v : V} (t : Al R H xs as) (h : v ∈ xs) : ∃ a ∈ as, R H v a := by
  obtain ⟨i, hi⟩ := List.getElem?_of_mem h
  obtain ⟨a, h1, h2⟩ := t.get i v hi
  exact ⟨a, List.mem_of_getElem? h1, h2⟩
end
def Pr (H : Hp) (v : V) (s : Int × Int) : Prop := ∃ a, v = .ref a ∧ H a = some (.tup [.int s.1, .int s.2])
theorem Pr.ex {H H' : Hp} {v : V} {s : Int × Int} (e : Ex H H') : Pr H v s → Pr H' v s := fun ⟨a, h1, h2⟩ => ⟨a, h1, e _ _ h2⟩
/-- a pair that may lie in the program's text -/
def PrR (H : Hp) (v : V) (s : Int × Int) : Prop := ∃ a, v = .ref a ∧ Rd H a (.tup [.int s.1, .int s.2])
theorem Pr.r {H : Hp} {v : V} {s : Int × Int} : Pr H v s → PrR H v s := fun ⟨a, h1, h2⟩ => ⟨a, h1, .inl h2⟩
theorem PrR.ex {H H' : Hp} {v : V} {s : Int × Int} (e : Ex H H') : PrR H v s → PrR H' v s := fun ⟨a, h1, h2⟩ => ⟨a, h1, Evl.ex_rd e h2⟩
/-- a list of pairs at q -/
def Lp (H : Hp) (q : Addr) (sp : List (Int × Int)) : Prop := ∃ xs, H q = some (.lst xs) ∧ Al Pr H xs sp
theorem Lp.ex {H H' : Hp} {q : Addr} {sp : List (Int × Int)} (e : Ex H H') : Lp H q sp → Lp H' q sp := fun ⟨xs, h1, h2⟩ => ⟨xs, e _ _ h1, h2.imp fun _ _ => Pr.ex e⟩
abbrev Wd (x : Int) : Prop := x.natAbs < 2 ^ 3400
theorem sm_wd {x : Int} (h : Sm x) : Wd x := Nat.lt_trans h (by decide +kernel)
theorem wd_wide {x : Int} (h : Wd x) : x.natAbs < 2 ^ 3500 := Nat.lt_trans h (by decide +kernel)
theorem wd_le {x y : Int} (h : Wd y) (l : x.natAbs ≤ y.natAbs) : Wd x := Nat.lt_of_le_of_lt l h
theorem ediv_abs {a b : Int} (hb : 0 < b) : (a / b).natAbs ≤ a.natAbs := by
  rcases Int.le_total 0 a with h | h
  · have h1 := Int.ediv_nonneg h (by omega : 0 ≤ b)
    have h2 := Int.ediv_le_self b h
    omega
  · have e := divmod_at (e := a) hb
    have h1 : a / b ≤ 0 := by
      have := Int.ediv_le_ediv hb h
      rwa [Int.zero_ediv] at this
    have : a ≤ a / b := by
      refine Int.le_ediv_of_mul_le hb ?_
      have : a * b ≤ a * 1 := Int.mul_le_mul_of_nonpos_left h (by omega)
      omega
    omega
theorem spLen_le {per : Int} {sp : List (Int × Int)} (k : SpOk per sp) : 0 ≤ spLen sp ∧ spLen sp ≤ per := by
  have h1 := spLen_nn fun t ht => (k.rng t ht).2.1
  have key : ∀ n : Nat, cbl sp per n ≤ n := fun n => by
    induction n with
    | zero => rw [show ((0 : Nat) : Int) = 0 from rfl, cbl_zero k]; exact Int.le_refl _
    | succ n ih =>
      have := cbl_succ k (n : Int)
      have hb : bI (spB sp ((n : Int) % per)) ≤ 1 := by cases spB sp ((n : Int) % per) <;> decide
      rw [show ((n + 1 : Nat) : Int) = (n : Int) + 1 by omega]
      omega
  have h2 := key per.toNat
  have h3 := k.pos
  rw [show ((per.toNat : Nat) : Int) = per by omega, cbl_per k] at h2
  exact ⟨h1, h2⟩
theorem cbl_bd {per e : Int} {sp : List (Int × Int)} (k : SpOk per sp) (h : 0 ≤ e) : 0 ≤ cbl sp per e ∧ cbl sp per e ≤ e := by
  refine ⟨cbl_nn k h, ?_⟩
  have key : ∀ n : Nat, cbl sp per n ≤ n := fun n => by
    induction n with
    | zero => rw [show ((0 : Nat) : Int) = 0 from rfl, cbl_zero k]; exact Int.le_refl _
    | succ n ih =>
      have := cbl_succ k (n : Int)
      have hb : bI (spB sp ((n : Int) % per)) ≤ 1 := by cases spB sp ((n : Int) % per) <;> decide
      rw [show ((n + 1 : Nat) : Int) = (n : Int) + 1 by omega]
      omega
  have h2 := key e.toNat
  rwa [show ((e.toNat : Nat) : Int) = e by omega] at h2
theorem numLoop_cons (base : Int) (s : Int × Int) (sp : List (Int × Int)) (left : Int) : numLoop base (s :: sp) left = if left ≤ s.2 - s.1 then some (base + s.1 + left) else numLoop base sp (left - (s.2 - s.1 + 1)) := rfl
def spBand : Sp := fun vs H Q _ => ∃ v b0 b1 r, vs = [v, .int r] ∧ PrR H v (b0, b1) ∧ ∀ q H', Ex H H' → H q = none → Lp H' q (toneSpans b0 b1 r) → Q (.ref q) H'
def spAll : Sp := fun vs H Q _ => ∃ r, vs = [.int r] ∧ ∀ q H', Ex H H' → H q = none → Lp H' q [(0, r - 1)] → Q (.ref q) H'
def spCB : Sp := fun vs H Q _ => ∃ q sp per e, vs = [.ref q, .int per, .int e] ∧ Lp H q sp ∧ SpOk per sp ∧ sp.length ≤ 100000 ∧ Wd per ∧ Wd e ∧ ∀ H', Ex H H' → Q (.int (cbl sp per e)) H'
def spNA : Sp := fun vs H Q _ => ∃ q sp per i, vs = [.ref q, .int per, .int i] ∧ Lp H q sp ∧ SpOk per sp ∧ sp.length ≤ 100000 ∧ sp ≠ [] ∧ Wd per ∧ Wd i ∧ ∀ H', Ex H H' → Q (optV (numAt sp per i)) H'
/-- the spans of intervals, one after another, before they are sorted -/
def spSO : Sp := fun vs H Q _ => ∃ q l r, vs = [.ref q, .int r] ∧ Lp H q l ∧ l.length ≤ 100000 ∧ 0 < r ∧ ∀ q' H' out, Ex H H' → H q' = none → Lp H' q' out → out.Perm (l.flatMap (wrap r)) → (out.Pairwise fun s t => s.1 ≤ t.1) → Q (.ref q') H'
section
variable {P : Program} {w : World} {K : PySem.W.Frag} {mg : Str → Option Value} {base : Heap}
abbrev s_all_spans : Stmt := top 40
theorem sc_all_spans : FnScope ["period"] ["period"] (defScope s_all_spans) := ⟨rfl, rfl, rfl, by decide +kernel, rfl, by decide +kernel, by decide +kernel⟩
theorem ok_all_spans {f : Addr} {fd : FuncData} (F : Fun K "all_spans" "all_spans" s_all_spans f fd) : FnOk P w K mg base CX0 1 f fd ["period"] spAll := by
  refine F.ok sc_all_spans (fun vs H Q E h => ?_) (fun cdv A outer s H vs Q E hr h => ?_)
  · obtain ⟨r, rfl, _⟩ := h
    rfl
  · obtain ⟨r, rfl, k⟩ := h
    refine ⟨_, (pss_one (ps_ret (pe_lst (pa_cons (pe_tup (pa_cons pe_int (pa_cons (pe_op op_sub (pv 0) pe_int) pa_nil))) pa_nil)))), ?_⟩
    walk_at "rd"
    intro p hp
    walk_at "rd"
    intro q hq
    have e1 := Ex.new (o := HO.tup [.int 0, .int (r - 1)]) hp
    have e2 := Ex.new (o := HO.lst [.ref p]) hq
    refine k q _ (e1.trans e2) (Evl.fresh_back e1 hq) ⟨_, upd_same, ?_⟩
    exact Al.nil.snoc ⟨p, rfl, e2 _ _ upd_same⟩
end
end Kx

set_option Elab.async false
set_option linter.all false
set_option maxRecDepth 100000
set_option maxHeartbeats 4000000

namespace Kx
open PySem PySem.Spec PyProof.Rows L2 HX
open Evl (Ex)
local macro_rules | `(tactic| walk_at "side") => `(tactic| first | assumption | ((try dsimp only); first | assumption | decide +kernel | omega | exact ⟨by decide, by decide⟩ | (left; decide) | (left; omega) | (refine Or.inl ⟨?_, ?_⟩ <;> omega) | (refine Or.inr ⟨?_, ?_⟩ <;> omega)))
local macro_rules | `(tactic| walk_at "heap") => `(tactic| first | assumption | exact upd_same | exact Or.inl (by assumption) | exact Or.inl upd_same)
local macro_rules | `(tactic| walk_at "item") => `(tactic| first | exact rfl | exact atI_nat (j := 0) rfl | exact atI_nat (j := 1) rfl | exact atI_nat (j := 2) rfl | assumption)
local macro_rules | `(tactic| walk_at "rd") => `(tactic| repeat (first
  | ((with_reducible refine' go_var ?hv ?_); (case hv => exact rfl))
  | with_reducible refine' go_c ?_
  | with_reducible refine' go_op ?_
  | with_reducible refine' go_seq ?_
  | with_reducible refine' go_asg ?_
  | with_reducible refine' go_name ?_
  | with_reducible refine' go_cons ?_
  | with_reducible refine' go_nil ?_
  | with_reducible refine' go_cb ?_
  | with_reducible refine' go_call ?_
  | with_reducible refine' go_ifS ?_
  | with_reducible refine' go_test ?_
  | with_reducible refine' go_bl ?_
  | with_reducible refine' go_ret ?_
  | with_reducible refine' go_I0 ?_
  | ((with_reducible refine' go_I ?cc ?_); (case cc => walk_at "side"))
  | ((with_reducible refine' go_ixL ?hh ?hk ?_); (case hh => walk_at "heap"); (case hk => walk_at "item"))
  | ((with_reducible refine' go_ixT ?hh ?hk ?_); (case hh => walk_at "heap"); (case hk => walk_at "item"))
  | ((with_reducible refine' go_lenL ?hh ?_); (case hh => walk_at "heap"))
  | ((with_reducible refine' go_lenT ?hh ?_); (case hh => walk_at "heap"))
  | ((with_reducible refine' go_setL ?hh ?hk ?_); (case hh => walk_at "heap"); (case hk => walk_at "item"))
  | with_reducible refine' go_abs ?_
  | with_reducible refine' go_max ?_
  | with_reducible refine' go_min ?_
  | with_reducible refine' go_int ?_
  | with_reducible refine' go_intB ?_
  | (with_reducible refine' go_eq rfl ?_)
  | (with_reducible refine' go_ne rfl ?_)
  | with_reducible refine' go_isN ?_
  | with_reducible refine' go_notN ?_
  | with_reducible refine' go_if ?_
  | with_reducible refine' go_sub ?_
  | with_reducible refine' go_par ?_
  | with_reducible refine' go_sl ?_
  | with_reducible refine' go_part ?_
  | with_reducible refine' go_pint ?_
  | with_reducible refine' go_nopart ?_
  | ((with_reducible refine' go_lenL ?hh ?_); (case hh => walk_at "heap"))
  | ((with_reducible refine' go_lenT ?hh ?_); (case hh => walk_at "heap"))
  | ((with_reducible refine' go_lenS ?hh ?_); (case hh => assumption))
  | with_reducible refine' go_gcons ?_
  | with_reducible refine' go_gnil ?_
  | with_reducible refine' go_kw ?_
  | with_reducible refine' go_par2 ?_
  | with_reducible refine' go_next ?_
  | with_reducible refine' go_drop ?_
  | with_reducible refine' go_and ?_
  | with_reducible refine' go_or ?_
  | with_reducible refine' go_not ?_
  | with_reducible refine' go_B ?_
  | with_reducible refine' go_andV ?_
  | with_reducible refine' go_orV ?_
  | with_reducible refine' go_notV ?_
  | with_reducible refine' go_chain ?_
  | with_reducible refine' go_un ?_
  | with_reducible refine' go_U ?_
  | with_reducible refine' go_bm ?_
  | with_reducible refine' go_tup ?_
  | with_reducible refine' go_lst ?_
  | with_reducible refine' go_forR1 ?_
  | with_reducible refine' go_forR2 ?_
  | with_reducible refine' go_forL ?_
  | with_reducible refine' go_forT ?_
  | with_reducible refine' go_forE ?_
  | with_reducible refine' go_lcR1 ?_
  | with_reducible refine' go_lcL ?_
  | with_reducible refine' go_lcT ?_
  | ((with_reducible refine' go_tyL ?hh ?_); (case hh => walk_at "heap"))
  | ((with_reducible refine' go_new ?hz ?_); (case hz => exact Nat.le_of_ble_eq_true rfl))
  | (with_reducible refine' ⟨_, rfl, ?_⟩)
  ))
--MACEND
theorem Pr.mut {H : Hp} {v : V} {s : Int × Int} {l : Addr} {ys : List V} {o : HO} (hl : H l = some (.lst ys)) : Pr H v s → Pr (upd H l o) v s := fun ⟨a, h1, h2⟩ =>
  ⟨a, h1, by rw [upd_ne (fun z => by rw [z, hl] at h2; cases h2)]; exact h2⟩
def prK (H : Hp) (v : V) : Int × Int := match v with
  | .ref t => match H t with
    | some (.tup [.int a, .int b]) => (a, b)
    | _ => (0, 0)
  | _ => (0, 0)
theorem prK_of {H : Hp} {v : V} {s : Int × Int} (h : Pr H v s) : prK H v = s := by
  obtain ⟨a, rfl, h⟩ := h
  show (match H a with
    | some (.tup [.int a, .int b]) => (a, b)
    | _ => (0, 0)) = s
  rw [h]
theorem al_map {H : Hp} {xs : List V} {l : List (Int × Int)} (h : Al Pr H xs l) : xs.map (prK H) = l := by
  refine List.ext_getElem? fun i => ?_
  rw [List.getElem?_map]
  cases hx : xs[i]? with
  | none =>
    have : l[i]? = none := by
      rw [List.getElem?_eq_none_iff] at hx ⊢
      rw [← h.len]
      exact hx
    rw [this]
    rfl
  | some v =>
    obtain ⟨s, h1, h2⟩ := h.get i v hx
    rw [h1]
    exact congrArg some (prK_of h2)
theorem big5 {n : Nat} (h : n ≤ 200001) : n < sizeLine := Nat.lt_of_le_of_lt h (by rw [sizeLine_eq]; decide)
theorem wrap_len (r : Int) (s : Int × Int) : (wrap r s).length ≤ 2 := by
  unfold wrap
  split <;> simp
theorem flat_len (r : Int) (l : List (Int × Int)) : (l.flatMap (wrap r)).length ≤ 2 * l.length := by
  induction l with
  | nil => exact Nat.le_refl _
  | cons s l ih =>
    rw [List.flatMap_cons, List.length_append, List.length_cons]
    have := wrap_len r s
    omega
def spAlong : Sp := fun vs H Q _ => ∃ v s r q sps, vs = [v, .int r, .ref q] ∧ Tx H v s ∧ Wy s ∧ Lp H q sps ∧ SpOk r sps ∧ sps.length ≤ 20000 ∧
  ∀ q' H' out, Ex H H' → H q' = none → Lp H' q' out → out.length ≤ 2 * sps.length → SpOk r out → (∀ x, spB out (x % r) = spB sps (valS s x % r)) → Q (.ref q') H'
section
variable {P : Program} {w : World} {K : PySem.W.Frag} {mg : Str → Option Value} {base : Heap}
abbrev s_tone_spans : Stmt := top 41
theorem sc_tone_spans : FnScope ["band", "rate", "least", "top", "spans", "low", "high"] ["band", "rate"] (defScope s_tone_spans) := ⟨rfl, rfl, rfl, by decide +kernel, rfl, by decide +kernel, by decide +kernel⟩
theorem ok_tone_spans {f : Addr} {fd : FuncData} (F : Fun K "tone_spans" "tone_spans" s_tone_spans f fd) (m_max : mg "max" = none) (m_min : mg "min" = none) : FnOk P w K mg base CX0 1 f fd ["band", "rate"] spBand := by
  refine F.ok sc_tone_spans (fun vs H Q E h => ?_) (fun cdv A outer s H vs Q E hr h => ?_)
  · obtain ⟨v, b0, b1, r, rfl, _⟩ := h
    rfl
  · obtain ⟨v, b0, b1, r, rfl, ⟨a, rfl, ha⟩, k⟩ := h
    refine ⟨_, (pss_cons (ps_set (i := 2) sc_tone_spans.nd rfl (Or.inl rfl) (pe_ix ix_tup (pv 0) pe_int (fun _ _ => rfl)))
  (pss_cons (ps_set (i := 3) sc_tone_spans.nd rfl (Or.inl rfl) (pe_callB (call_minQ rfl) rfl m_min boot_min (pa_cons (pe_ix ix_tup (pv 0) pe_int (fun _ _ => rfl)) (pa_cons (pe_op op_fdiv (pv 1) pe_int) pa_nil))))
  (pss_cons (ps_set (i := 4) sc_tone_spans.nd rfl (Or.inl rfl) (pe_lst (pa_cons (pe_tup (pa_cons (pv 2) (pa_cons (pv 3) pa_nil))) (pa_cons (pe_tup (pa_cons (pe_callB (call_maxQ rfl) rfl m_max boot_max (pa_cons (pe_op op_sub (pv 1) (pv 3)) (pa_cons (pe_op op_add (pv 3) pe_int) pa_nil))) (pa_cons (pe_callB (call_minQ rfl) rfl m_min boot_min (pa_cons (pe_op op_sub (pv 1) (pv 2)) (pa_cons (pe_op op_sub (pv 1) pe_int) pa_nil))) pa_nil))) pa_nil))))
  (pss_one (ps_ret (pe_lc (own := [("low", 5), ("high", 6)]) (g := gTup K 2 (gCons (gName 5) (gCons (gName 6) (gNil)))) (by rfl) (sc_tone_spans).nd (pi_list (pv 4)) (blkOk_by (own := [("low", 5), ("high", 6)]) (N := ["band", "rate", "least", "top", "spans", "low", "high"]) (sc := defScope s_tone_spans) (by decide +kernel)) (fun _ _ _ _ _ => pg_tup (by rfl) (pgs_cons (pg_name (i := 5) (sc_tone_spans).nd rfl (Or.inl rfl)) (pgs_cons (pg_name (i := 6) (sc_tone_spans).nd rfl (Or.inl rfl)) pgs_nil))) (fun _ _ _ _ _ => (pts_one (pt_cmpR op_le (pv 5) (pv 6) (nomark _)))) (fun _ _ _ _ _ => (pe_tup (pa_cons (pv 5) (pa_cons (pv 6) pa_nil)))))))))), ?_⟩
    walk_at "rd"
    intro p1 hp1
    have e1 := Ex.new (o := HO.tup [.int b0, .int (mnI b1 (r / 2))]) hp1
    walk_at "rd"
    intro p2 hp2
    have e2 := Ex.new (o := HO.tup [.int (mxI (r - mnI b1 (r / 2)) (mnI b1 (r / 2) + 1)), .int (mnI (r - b0) (r - 1))]) hp2
    walk_at "rd"
    intro l hl
    have e3 := Ex.new (o := HO.lst [.ref p1, .ref p2]) hl
    walk_at "rd"
    refine ⟨⟨[.ref p1, .ref p2], .inl (.inl upd_same)⟩, ?_⟩
    generalize hs1 : (b0, mnI b1 (r / 2)) = s1
    generalize hs2 : (mxI (r - mnI b1 (r / 2)) (mnI b1 (r / 2) + 1), mnI (r - b0) (r - 1)) = s2
    have k' : ∀ q H', Ex H H' → H q = none → Lp H' q ([s1, s2].filter fun s => decide (s.1 ≤ s.2)) → Q (.ref q) H' := by
      rw [← hs1, ← hs2]
      exact k
    refine run_lcL [.ref p1, .ref p2] (fun D i G => ∃ ys, G D = some (.lst ys) ∧ Al Pr G ys (([s1, s2].take i).filter fun s => decide (s.1 ≤ s.2)) ∧ Ex H G ∧ Pr G (.ref p1) s1 ∧ Pr G (.ref p2) s2 ∧ G l = some (.lst [.ref p1, .ref p2]) ∧ H D = none ∧ l ≠ D) ?_ ?_ ?_ ?_
    · intro D hD
      have e4 := Ex.new (o := HO.lst []) hD
      refine ⟨[], upd_same, Al.nil, ((e1.trans e2).trans e3).trans e4, ⟨p1, rfl, (e3.trans e4) _ _ ?_⟩, ⟨p2, rfl, (e3.trans e4) _ _ ?_⟩, e4 _ _ upd_same, Evl.fresh_back ((e1.trans e2).trans e3) hD, fun z => ?_⟩
      · rw [← hs1]
        exact e2 _ _ upd_same
      · rw [← hs2]
        exact upd_same
      · rw [z, upd_same] at hD
        cases hD
    · exact fun D i G _ ⟨ys, _, _, _, _, _, h, _⟩ => .inl (.inl h)
    · rintro D i v G hi ⟨ys, hG, hA, eG, q1, q2, hl', hD, ne⟩
      obtain ⟨t, ht, hv⟩ : ∃ t, [s1, s2][i]? = some t ∧ Pr G v t := by
        rcases (by have := (List.getElem?_eq_some_iff.mp hi).1; simp at this; omega : i = 0 ∨ i = 1) with rfl | rfl
        · cases hi; exact ⟨s1, rfl, q1⟩
        · cases hi; exact ⟨s2, rfl, q2⟩
      obtain ⟨a, rfl, ha⟩ := hv
      refine go_gtup (.inl (.inl ha)) rfl ?_
      walk_at "rd"
      rw [List.take_succ, ht, List.filter_append]
      have one : ([t].filter fun s : Int × Int => decide (s.1 ≤ s.2)) = if t.1 ≤ t.2 then [t] else [] := by
        rw [List.filter_cons]
        simp
      rw [show (some t).toList = [t] from rfl, one]
      refine ⟨rfl, ?_⟩
      walk_at "rd"
      refine ite2 (fun c => ?_) (fun c => ?_)
      · rw [if_pos (of_decide_eq_true c)]
        walk_at "rd"
        intro p hp
        have x1 := Ex.new (o := HO.tup [.int t.1, .int t.2]) hp
        have hGx := x1 _ _ hG
        have len : ys.length ≤ 2 := by
          rw [hA.len]
          refine Nat.le_trans (List.length_filter_le _ _) ?_
          rw [List.length_take]
          exact Nat.min_le_right _ _
        refine ⟨ys, hGx, big5 (by omega), _, upd_same, ((hA.imp fun _ _ => Pr.ex x1).snoc ⟨p, rfl, upd_same⟩).imp fun _ _ => Pr.mut hGx, Ex.mut (eG.trans x1) hD, (q1.ex x1).mut hGx, (q2.ex x1).mut hGx, ?_, hD, ne⟩
        rw [upd_ne ne]
        exact x1 _ _ hl'
      · rw [if_neg (fun z => c (decide_eq_true z)), List.append_nil]
        exact ⟨ys, hG, hA, eG, q1, q2, hl', hD, ne⟩
    · rintro D G hD ⟨ys, hG, hA, eG, _, _, _, hD', _⟩
      walk_at "rd"
      exact k' D G eG hD' ⟨ys, hG, hA⟩
abbrev s_spans_of : Stmt := top 42
theorem sc_spans_of : FnScope ["stretches", "period", "spans", "low", "high", "start", "end"] ["stretches", "period"] (defScope s_spans_of) := ⟨rfl, rfl, rfl, by decide +kernel, rfl, by decide +kernel, by decide +kernel⟩
theorem ok_spans_of {f : Addr} {fd : FuncData} (F : Fun K "spans_of" "spans_of" s_spans_of f fd) (m_sorted : mg "sorted" = none) : FnOk P w K mg base CX0 1 f fd ["stretches", "period"] spSO := by
  refine F.ok sc_spans_of (fun vs H Q E h => ?_) (fun cdv A outer s H vs Q E hr h => ?_)
  · obtain ⟨q, l, r, rfl, _⟩ := h
    rfl
  · obtain ⟨q, l, r, rfl, ⟨xs, hq, hA⟩, hl, r0, k⟩ := h
    refine ⟨_, (pss_cons (ps_set (i := 2) sc_spans_of.nd rfl (Or.inl rfl) (pe_lst pa_nil))
  (pss_cons (ps_for PassesOwn.never rfl (pi_list (pv 0)) (pg_tup (by rfl) (pgs_cons (pg_name (i := 3) sc_spans_of.nd rfl (Or.inl rfl)) (pgs_cons (pg_name (i := 4) sc_spans_of.nd rfl (Or.inl rfl)) pgs_nil)))
  (pss_cons (ps_set (i := 5) sc_spans_of.nd rfl (Or.inl rfl) (pe_op op_mod (pv 3) (pv 1)))
  (pss_cons (ps_set (i := 6) sc_spans_of.nd rfl (Or.inl rfl) (pe_op op_sub (pe_op op_add (pv 5) (pv 4)) (pv 3)))
  (pss_one (ps_if (pt_cmpR op_lt (pv 6) (pv 1) (nomark _))
  (pss_one (ps_expr (pe_bm PySem.F.plainAttrs_list PySem.F.slot_list_append PySem.F.type_list_append mt_append (pv 2) (pa_cons (pe_tup (pa_cons (pv 5) (pa_cons (pv 6) pa_nil))) pa_nil))))
  (pss_cons (ps_expr (pe_bm PySem.F.plainAttrs_list PySem.F.slot_list_append PySem.F.type_list_append mt_append (pv 2) (pa_cons (pe_tup (pa_cons (pv 5) (pa_cons (pe_op op_sub (pv 1) pe_int) pa_nil))) pa_nil)))
  (pss_one (ps_expr (pe_bm PySem.F.plainAttrs_list PySem.F.slot_list_append PySem.F.type_list_append mt_append (pv 2) (pa_cons (pe_tup (pa_cons pe_int (pa_cons (pe_op op_sub (pv 6) (pv 1)) pa_nil))) pa_nil))))))))))
  (pss_one (ps_ret (pe_callB cr_sortedPO rfl m_sorted (by decide +kernel) (pa_cons (pv 2) pa_nil)))))), ?_⟩
    walk_at "rd"
    intro a ha
    have e0 := Ex.new (o := HO.lst []) ha
    walk_at "rd"
    have hq0 := e0 _ _ hq
    refine ⟨⟨xs, .inl (.inl hq0)⟩, ?_⟩
    refine run_forL xs (fun i σ G => ∃ (ys : List V) (v3 v4 v5 v6 : Option V), σ = [some (.ref q), some (.int r), some (.ref a), v3, v4, v5, v6] ∧ Ex H G ∧ G a = some (.lst ys) ∧ Al Pr G ys ((l.take i).flatMap (wrap r))) ?_ ?_ ?_ ?_
    · exact ⟨[], _, _, _, _, rfl, e0, upd_same, Al.nil⟩
    · rintro i σ G _ ⟨ys, _, _, _, _, rfl, e, _, _⟩
      exact .inl (.inl (e _ _ hq))
    · rintro i v σ G hi ⟨ys, v3, v4, v5, v6, rfl, e, hG, hY⟩
      obtain ⟨t, ht, b, rfl, hb⟩ := hA.get i v hi
      have hlen : ys.length ≤ 200000 := by
        rw [hY.len]
        have h1 := flat_len r (l.take i)
        rw [List.length_take] at h1
        omega
      rw [List.take_succ, ht, List.flatMap_append]
      rw [show (some t).toList.flatMap (wrap r) = wrap r t by simp]
      walk_at "rd"
      refine go_gtup (.inl (.inl (e _ _ hb))) rfl ?_
      walk_at "rd"
      refine ite2 (fun c => ?_) (fun c => ?_)
      · have hw : wrap r t = [(t.1 % r, t.1 % r + t.2 - t.1)] := by
          unfold wrap
          rw [if_pos (of_decide_eq_true c)]
        rw [hw]
        walk_at "rd"
        intro p hp
        have x1 := Ex.new (o := HO.tup [.int (t.1 % r), .int (t.1 % r + t.2 - t.1)]) hp
        walk_at "rd"
        refine go_app (x1 _ _ hG) (big5 (by omega)) ?_
        refine ⟨_, _, _, _, _, rfl, Ex.mut (e.trans x1) ha, upd_same, ?_⟩
        exact (((hY.imp fun _ _ => Pr.ex x1).snoc ⟨p, rfl, upd_same⟩)).imp fun _ _ => Pr.mut (x1 _ _ hG)
      · have hw : wrap r t = [(t.1 % r, r - 1), (0, t.1 % r + t.2 - t.1 - r)] := by
          unfold wrap
          rw [if_neg (fun z => c (decide_eq_true z))]
        rw [hw]
        walk_at "rd"
        intro p hp
        have x1 := Ex.new (o := HO.tup [.int (t.1 % r), .int (r - 1)]) hp
        walk_at "rd"
        refine go_app (x1 _ _ hG) (big5 (by omega)) ?_
        have t1 := ((hY.imp fun _ _ => Pr.ex x1).snoc (a := (t.1 % r, r - 1)) ⟨p, rfl, upd_same⟩).imp fun _ _ => Pr.mut (o := .lst (ys ++ [.ref p])) (x1 _ _ hG)
        have E2 := Ex.mut (o := .lst (ys ++ [.ref p])) (e.trans x1) ha
        have hl2 := upd_same (H := upd G p (HO.tup [.int (t.1 % r), .int (r - 1)])) (a := a) (o := HO.lst (ys ++ [.ref p]))
        generalize upd (upd G p (HO.tup [.int (t.1 % r), .int (r - 1)])) a (HO.lst (ys ++ [.ref p])) = G2 at *
        walk_at "rd"
        intro p2 hp2
        have x2 := Ex.new (o := HO.tup [.int 0, .int (t.1 % r + t.2 - t.1 - r)]) hp2
        walk_at "rd"
        refine go_app (x2 _ _ hl2) (big5 (by rw [List.length_append]; simp only [List.length_cons, List.length_nil]; omega)) ?_
        have t2 := ((t1.imp fun _ _ => Pr.ex x2).snoc (a := (0, t.1 % r + t.2 - t.1 - r)) ⟨p2, rfl, upd_same⟩).imp fun _ _ => Pr.mut (o := .lst (ys ++ [.ref p] ++ [.ref p2])) (x2 _ _ hl2)
        rw [List.append_assoc (List.flatMap _ _)] at t2
        exact ⟨_, _, _, _, _, rfl, Ex.mut (E2.trans x2) ha, upd_same, t2⟩
    · rintro σ G ⟨ys, v3, v4, v5, v6, rfl, e, hG, hY⟩
      rw [List.take_of_length_le (by rw [hA.len]; exact Nat.le_refl _)] at hY
      walk_at "rd"
      refine ⟨a, ys, prK G, rfl, .inl (.inl hG), fun x hx => ?_, fun zs p hs hb hp => ?_⟩
      · obtain ⟨i, hi⟩ := List.getElem?_of_mem hx
        obtain ⟨s, _, h⟩ := hY.get i x hi
        obtain ⟨t, h1, h2⟩ := id h
        exact ⟨t, h1, by rw [prK_of h]; exact h2⟩
      · have pm := hb.perm
        walk_at "rd"
        refine k p _ (zs.map (prK G)) (e.trans (Ex.new hp)) (Evl.fresh_back e hp) ⟨zs, upd_same, by rw [List.length_map], fun i v hv => ⟨prK G v, by rw [List.getElem?_map, hv]; rfl, ?_⟩⟩ ?_ ?_
        · obtain ⟨j, hj⟩ := List.getElem?_of_mem (pm.mem_iff.mp (List.mem_of_getElem? hv))
          obtain ⟨s, _, h⟩ := hY.get j v hj
          rw [prK_of h]
          exact h.ex (Ex.new hp)
        · rw [← al_map hY]
          exact pm.map _
        · refine List.pairwise_map.mpr (hs.imp fun {x y} h => ?_)
          have := SrtO.lexB_no.mp h
          omega
end
end Kx

set_option Elab.async false
set_option linter.all false
set_option maxRecDepth 100000
set_option maxHeartbeats 4000000

namespace Kx
open PySem PySem.Spec PyProof.Rows L2 HX
open Evl (Ex)
local macro_rules | `(tactic| walk_at "side") => `(tactic| first | assumption | ((try dsimp only); first | assumption | decide +kernel | omega | exact ⟨by decide, by decide⟩ | (left; decide) | (left; omega) | (refine Or.inl ⟨?_, ?_⟩ <;> omega) | (refine Or.inr ⟨?_, ?_⟩ <;> omega)))
local macro_rules | `(tactic| walk_at "heap") => `(tactic| first | assumption | exact upd_same | exact Or.inl (by assumption) | exact Or.inl upd_same)
local macro_rules | `(tactic| walk_at "item") => `(tactic| first | exact rfl | exact atI_nat (j := 0) rfl | exact atI_nat (j := 1) rfl | exact atI_nat (j := 2) rfl | assumption)
local macro_rules | `(tactic| walk_at "rd") => `(tactic| repeat (first
  | ((with_reducible refine' go_var ?hv ?_); (case hv => exact rfl))
  | with_reducible refine' go_c ?_
  | with_reducible refine' go_op ?_
  | with_reducible refine' go_seq ?_
  | with_reducible refine' go_asg ?_
  | with_reducible refine' go_name ?_
  | with_reducible refine' go_cons ?_
  | with_reducible refine' go_nil ?_
  | with_reducible refine' go_cb ?_
  | with_reducible refine' go_call ?_
  | with_reducible refine' go_ifS ?_
  | with_reducible refine' go_test ?_
  | with_reducible refine' go_bl ?_
  | with_reducible refine' go_ret ?_
  | with_reducible refine' go_I0 ?_
  | ((with_reducible refine' go_I ?cc ?_); (case cc => walk_at "side"))
  | ((with_reducible refine' go_ixL ?hh ?hk ?_); (case hh => walk_at "heap"); (case hk => walk_at "item"))
  | ((with_reducible refine' go_ixT ?hh ?hk ?_); (case hh => walk_at "heap"); (case hk => walk_at "item"))
  | ((with_reducible refine' go_lenL ?hh ?_); (case hh => walk_at "heap"))
  | ((with_reducible refine' go_lenT ?hh ?_); (case hh => walk_at "heap"))
  | ((with_reducible refine' go_setL ?hh ?hk ?_); (case hh => walk_at "heap"); (case hk => walk_at "item"))
  | with_reducible refine' go_abs ?_
  | with_reducible refine' go_max ?_
  | with_reducible refine' go_min ?_
  | with_reducible refine' go_int ?_
  | with_reducible refine' go_intB ?_
  | (with_reducible refine' go_eq rfl ?_)
  | (with_reducible refine' go_ne rfl ?_)
  | with_reducible refine' go_isN ?_
  | with_reducible refine' go_notN ?_
  | with_reducible refine' go_if ?_
  | with_reducible refine' go_sub ?_
  | with_reducible refine' go_par ?_
  | with_reducible refine' go_sl ?_
  | with_reducible refine' go_part ?_
  | with_reducible refine' go_pint ?_
  | with_reducible refine' go_nopart ?_
  | ((with_reducible refine' go_lenL ?hh ?_); (case hh => walk_at "heap"))
  | ((with_reducible refine' go_lenT ?hh ?_); (case hh => walk_at "heap"))
  | ((with_reducible refine' go_lenS ?hh ?_); (case hh => assumption))
  | with_reducible refine' go_gcons ?_
  | with_reducible refine' go_gnil ?_
  | with_reducible refine' go_kw ?_
  | with_reducible refine' go_par2 ?_
  | with_reducible refine' go_next ?_
  | with_reducible refine' go_drop ?_
  | with_reducible refine' go_and ?_
  | with_reducible refine' go_or ?_
  | with_reducible refine' go_not ?_
  | with_reducible refine' go_B ?_
  | with_reducible refine' go_andV ?_
  | with_reducible refine' go_orV ?_
  | with_reducible refine' go_notV ?_
  | with_reducible refine' go_chain ?_
  | with_reducible refine' go_un ?_
  | with_reducible refine' go_U ?_
  | with_reducible refine' go_bm ?_
  | with_reducible refine' go_tup ?_
  | with_reducible refine' go_lst ?_
  | with_reducible refine' go_forR1 ?_
  | with_reducible refine' go_forR2 ?_
  | with_reducible refine' go_forL ?_
  | with_reducible refine' go_forT ?_
  | with_reducible refine' go_forE ?_
  | with_reducible refine' go_lcR1 ?_
  | with_reducible refine' go_lcL ?_
  | with_reducible refine' go_lcT ?_
  | ((with_reducible refine' go_tyL ?hh ?_); (case hh => walk_at "heap"))
  | ((with_reducible refine' go_new ?hz ?_); (case hz => exact Nat.le_of_ble_eq_true rfl))
  | (with_reducible refine' ⟨_, rfl, ?_⟩)
  ))
--MACEND
def spPer : Sp := fun vs H Q _ => ∃ rate : Option Int, vs = [optV rate] ∧ ∀ H', Ex H H' → Q (.int (rate.getD 1)) H'
section
variable {P : Program} {w : World} {K : PySem.W.Frag} {mg : Str → Option Value} {base : Heap}
abbrev s__spans_along : Stmt := top 48
theorem sc__spans_along : FnScope ["stretch", "rate", "spans", "ends", "low", "high", "one", "other"] ["stretch", "rate", "spans"] (defScope s__spans_along) := ⟨rfl, rfl, rfl, by decide +kernel, rfl, by decide +kernel, by decide +kernel⟩
theorem ok_spans_along {f : Addr} {fd : FuncData} (F : Fun K "_spans_along" "_spans_along" s__spans_along f fd) (m_max : mg "max" = none) (m_min : mg "min" = none) (h_signal_of : Has P w K mg base 1 "signal_of" spSig) (h_spans_of : Has P w K mg base 1 "spans_of" spSO) :
    FnOk P w K mg base CX0 2 f fd ["stretch", "rate", "spans"] spAlong := by
  refine F.ok sc__spans_along (fun vs H Q E h => ?_) (fun cdv A outer s H vs Q E hr h => ?_)
  · obtain ⟨v, s, r, q, sps, rfl, _⟩ := h
    rfl
  · obtain ⟨v, s, r, q, sps, rfl, hT, hw, ⟨xs, hq, hA⟩, ok, hl, k⟩ := h
    refine ⟨_, (pss_cons (ps_setLc (i := 3) (own := [("low", 4), ("high", 5)]) (g := gTup K 2 (gCons (gName 4) (gCons (gName 5) (gNil)))) (by rfl) sc__spans_along.nd rfl rfl (sw_true rfl rfl rfl (by decide +kernel)) (pi_list (pv 2)) (blkOk_by (own := [("low", 4), ("high", 5)]) (N := ["stretch", "rate", "spans", "ends", "low", "high", "one", "other"]) (sc := defScope s__spans_along) (by decide +kernel)) (fun _ _ _ _ _ => pg_tup (by rfl) (pgs_cons (pg_name (i := 4) (sc__spans_along).nd rfl (Or.inl rfl)) (pgs_cons (pg_name (i := 5) (sc__spans_along).nd rfl (Or.inl rfl)) pgs_nil))) (fun _ _ _ _ _ => pts_nil) (fun _ _ _ _ _ => (pe_tup (pa_cons (pe_hs h_signal_of hr rfl (pa_cons (pv 0) (pa_cons (pv 4) pa_nil))) (pa_cons (pe_hs h_signal_of hr rfl (pa_cons (pv 0) (pa_cons (pv 5) pa_nil))) pa_nil)))))
  (pss_one (ps_ret (pe_hs h_spans_of hr rfl (pa_cons (pe_lc (own := [("one", 6), ("other", 7)]) (g := gTup K 2 (gCons (gName 6) (gCons (gName 7) (gNil)))) (by rfl) (sc__spans_along).nd (pi_list (pv 3)) (blkOk_by (own := [("one", 6), ("other", 7)]) (N := ["stretch", "rate", "spans", "ends", "low", "high", "one", "other"]) (sc := defScope s__spans_along) (by decide +kernel)) (fun _ _ _ _ _ => pg_tup (by rfl) (pgs_cons (pg_name (i := 6) (sc__spans_along).nd rfl (Or.inl rfl)) (pgs_cons (pg_name (i := 7) (sc__spans_along).nd rfl (Or.inl rfl)) pgs_nil))) (fun _ _ _ _ _ => pts_nil) (fun _ _ _ _ _ => (pe_tup (pa_cons (pe_callB (call_minQ rfl) rfl m_min boot_min (pa_cons (pv 6) (pa_cons (pv 7) pa_nil))) (pa_cons (pe_callB (call_maxQ rfl) rfl m_max boot_max (pa_cons (pv 6) (pa_cons (pv 7) pa_nil))) pa_nil))))) (pa_cons (pv 1) pa_nil)))))), ?_⟩
    walk_at "rd"
    refine ⟨⟨xs, .inl (.inl hq)⟩, ?_⟩
    refine run_lcL xs (fun D i G => ∃ ys, G D = some (.lst ys) ∧ Al Pr G ys ((sps.take i).map fun t => (sigOf s t.1, sigOf s t.2)) ∧ Ex H G ∧ H D = none) ?_ ?_ ?_ ?_
    · exact fun D hD => ⟨[], upd_same, Al.nil, Ex.new hD, hD⟩
    · exact fun D i G _ ⟨ys, _, _, eG, _⟩ => .inl (.inl (eG _ _ hq))
    · rintro D i u G hi ⟨ys, hG, hY, eG, hD⟩
      obtain ⟨t, ht, a, rfl, ha⟩ := hA.get i u hi
      refine go_gtup (.inl (.inl (eG _ _ ha))) rfl ?_
      walk_at "rd"
      refine ⟨rfl, go_yes (iteT ?_)⟩
      walk_at "rd"
      refine ⟨v, s, t.1, rfl, hT.ex eG, hw, fun G1 e1 => ?_⟩
      walk_at "rd"
      refine ⟨v, s, t.2, rfl, hT.ex (eG.trans e1), hw, fun G2 e2 => ?_⟩
      walk_at "rd"
      intro p hp
      have x1 := (e1.trans e2).trans (Ex.new (o := HO.tup [.int (sigOf s t.1), .int (sigOf s t.2)]) hp)
      have hGx := x1 _ _ hG
      have len : ys.length ≤ 20000 := by
        rw [hY.len, List.length_map, List.length_take]
        omega
      refine ⟨ys, hGx, big5 (by omega), _, upd_same, ?_, Ex.mut (eG.trans x1) hD, hD⟩
      rw [List.take_succ, ht, List.map_append]
      exact ((hY.imp fun _ _ => Pr.ex x1).snoc (a := (sigOf s t.1, sigOf s t.2)) ⟨p, rfl, upd_same⟩).imp fun _ _ => Pr.mut hGx
    rintro D1 G1 hD1 ⟨ys, h1, hY, e1, _⟩
    rw [List.take_of_length_le (by rw [hA.len]; exact Nat.le_refl _)] at hY
    walk_at "rd"
    refine ⟨⟨ys, .inl (.inl h1)⟩, ?_⟩
    refine run_lcL ys (fun D i G => ∃ zs, G D = some (.lst zs) ∧ Al Pr G zs ((sps.take i).map (endsOf s)) ∧ Ex G1 G ∧ G1 D = none) ?_ ?_ ?_ ?_
    · exact fun D hD => ⟨[], upd_same, Al.nil, Ex.new hD, hD⟩
    · exact fun D i G _ ⟨zs, _, _, eG, _⟩ => .inl (.inl (eG _ _ h1))
    · rintro D i u G hi ⟨zs, hG, hZ, eG, hD⟩
      obtain ⟨t', ht', a, rfl, ha⟩ := hY.get i u hi
      rw [List.getElem?_map] at ht'
      obtain ⟨t, ht, rfl⟩ := Option.map_eq_some_iff.mp ht'
      refine go_gtup (.inl (.inl (eG _ _ ha))) rfl ?_
      walk_at "rd"
      refine ⟨rfl, go_yes (iteT ?_)⟩
      walk_at "rd"
      intro p hp
      have x1 := Ex.new (o := HO.tup [.int (mnI (sigOf s t.1) (sigOf s t.2)), .int (mxI (sigOf s t.1) (sigOf s t.2))]) hp
      have hGx := x1 _ _ hG
      have len : zs.length ≤ 20000 := by
        rw [hZ.len, List.length_map, List.length_take]
        omega
      refine ⟨zs, hGx, big5 (by omega), _, upd_same, ?_, Ex.mut (eG.trans x1) hD, hD⟩
      rw [List.take_succ, ht, List.map_append]
      exact ((hZ.imp fun _ _ => Pr.ex x1).snoc (a := endsOf s t) ⟨p, rfl, upd_same⟩).imp fun _ _ => Pr.mut hGx
    rintro D2 G2 hD2 ⟨zs, h2, hZ, e2, _⟩
    rw [List.take_of_length_le (by rw [hY.len, List.length_map]; exact Nat.le_refl _)] at hZ
    walk_at "rd"
    have E2 := e1.trans e2
    refine ⟨D2, sps.map (endsOf s), r, rfl, ⟨zs, h2, hZ⟩, by rw [List.length_map]; omega, ok.pos, fun q' H' out e' hf hL pm srt => ?_⟩
    have pm' : out.Perm (flatS s r sps) := by
      unfold flatS
      rw [List.flatMap_map] at pm
      exact pm
    obtain ⟨o1, o2⟩ := flat_ok hw ok pm' srt
    refine k q' H' out (E2.trans e') (Evl.fresh_back E2 hf) hL ?_ o1 o2
    rw [pm.length_eq]
    exact Nat.le_trans (flat_len r _) (by rw [List.length_map]; exact Nat.le_refl _)
abbrev s_period_of : Stmt := top 44
theorem sc_period_of : FnScope ["rate"] ["rate"] (defScope s_period_of) := ⟨rfl, rfl, rfl, by decide +kernel, rfl, by decide +kernel, by decide +kernel⟩
theorem ok_period_of {f : Addr} {fd : FuncData} (F : Fun K "period_of" "period_of" s_period_of f fd) : FnOk P w K mg base CX0 1 f fd ["rate"] spPer := by
  refine F.ok sc_period_of (fun vs H Q E h => ?_) (fun cdv A outer s H vs Q E hr h => ?_)
  · obtain ⟨rate, rfl, _⟩ := h
    rfl
  · obtain ⟨rate, rfl, k⟩ := h
    refine ⟨_, (pss_one (ps_ret (pe_ifExp (pt_cmpR op_isN1 (pv 0) pe_non (nomark _)) pe_int (pv 0)))), ?_⟩
    cases rate with
    | none =>
      walk_at "rd"
      refine ite2 (fun _ => ?_) (fun c => absurd (by simp [optV]) c)
      walk_at "rd"
      exact k _ (Ex.refl _)
    | some r =>
      rw [show optV (some r) = V.int r from rfl]
      walk_at "rd"
      refine ite2 (fun c => absurd c (by simp)) (fun _ => ?_)
      walk_at "rd"
      exact k _ (Ex.refl _)
end
end Kx

set_option Elab.async false
set_option linter.all false
set_option maxRecDepth 100000
set_option maxHeartbeats 4000000

namespace Kx
open PySem PySem.Spec PyProof.Rows L2 HX
open Evl (Ex)
local macro_rules | `(tactic| walk_at "side") => `(tactic| first | assumption | ((try dsimp only); first | assumption | decide +kernel | omega | exact ⟨by decide, by decide⟩ | (left; decide) | (left; omega) | (refine Or.inl ⟨?_, ?_⟩ <;> omega) | (refine Or.inr ⟨?_, ?_⟩ <;> omega)))
local macro_rules | `(tactic| walk_at "heap") => `(tactic| first | assumption | exact upd_same | exact Or.inl (by assumption) | exact Or.inl upd_same)
local macro_rules | `(tactic| walk_at "item") => `(tactic| first | exact rfl | exact atI_nat (j := 0) rfl | exact atI_nat (j := 1) rfl | exact atI_nat (j := 2) rfl | assumption)
local macro_rules | `(tactic| walk_at "rd") => `(tactic| repeat (first
  | ((with_reducible refine' go_var ?hv ?_); (case hv => exact rfl))
  | with_reducible refine' go_c ?_
  | with_reducible refine' go_op ?_
  | with_reducible refine' go_seq ?_
  | with_reducible refine' go_asg ?_
  | with_reducible refine' go_name ?_
  | with_reducible refine' go_cons ?_
  | with_reducible refine' go_nil ?_
  | with_reducible refine' go_cb ?_
  | with_reducible refine' go_call ?_
  | with_reducible refine' go_ifS ?_
  | with_reducible refine' go_test ?_
  | with_reducible refine' go_bl ?_
  | with_reducible refine' go_ret ?_
  | with_reducible refine' go_I0 ?_
  | ((with_reducible refine' go_I ?cc ?_); (case cc => walk_at "side"))
  | ((with_reducible refine' go_ixL ?hh ?hk ?_); (case hh => walk_at "heap"); (case hk => walk_at "item"))
  | ((with_reducible refine' go_ixT ?hh ?hk ?_); (case hh => walk_at "heap"); (case hk => walk_at "item"))
  | ((with_reducible refine' go_lenL ?hh ?_); (case hh => walk_at "heap"))
  | ((with_reducible refine' go_lenT ?hh ?_); (case hh => walk_at "heap"))
  | ((with_reducible refine' go_setL ?hh ?hk ?_); (case hh => walk_at "heap"); (case hk => walk_at "item"))
  | with_reducible refine' go_abs ?_
  | with_reducible refine' go_max ?_
  | with_reducible refine' go_min ?_
  | with_reducible refine' go_int ?_
  | with_reducible refine' go_intB ?_
  | (with_reducible refine' go_eq rfl ?_)
  | (with_reducible refine' go_ne rfl ?_)
  | with_reducible refine' go_isN ?_
  | with_reducible refine' go_notN ?_
  | with_reducible refine' go_if ?_
  | with_reducible refine' go_sub ?_
  | with_reducible refine' go_par ?_
  | with_reducible refine' go_sl ?_
  | with_reducible refine' go_part ?_
  | with_reducible refine' go_pint ?_
  | with_reducible refine' go_nopart ?_
  | ((with_reducible refine' go_lenL ?hh ?_); (case hh => walk_at "heap"))
  | ((with_reducible refine' go_lenT ?hh ?_); (case hh => walk_at "heap"))
  | ((with_reducible refine' go_lenS ?hh ?_); (case hh => assumption))
  | with_reducible refine' go_gcons ?_
  | with_reducible refine' go_gnil ?_
  | with_reducible refine' go_kw ?_
  | with_reducible refine' go_par2 ?_
  | with_reducible refine' go_next ?_
  | with_reducible refine' go_drop ?_
  | with_reducible refine' go_and ?_
  | with_reducible refine' go_or ?_
  | with_reducible refine' go_not ?_
  | with_reducible refine' go_B ?_
  | with_reducible refine' go_andV ?_
  | with_reducible refine' go_orV ?_
  | with_reducible refine' go_notV ?_
  | with_reducible refine' go_chain ?_
  | with_reducible refine' go_un ?_
  | with_reducible refine' go_U ?_
  | with_reducible refine' go_bm ?_
  | with_reducible refine' go_tup ?_
  | with_reducible refine' go_lst ?_
  | with_reducible refine' go_forR1 ?_
  | with_reducible refine' go_forR2 ?_
  | with_reducible refine' go_forL ?_
  | with_reducible refine' go_forT ?_
  | with_reducible refine' go_forE ?_
  | with_reducible refine' go_lcR1 ?_
  | with_reducible refine' go_lcL ?_
  | with_reducible refine' go_lcT ?_
  | ((with_reducible refine' go_tyL ?hh ?_); (case hh => walk_at "heap"))
  | ((with_reducible refine' go_new ?hz ?_); (case hz => exact Nat.le_of_ble_eq_true rfl))
  | (with_reducible refine' ⟨_, rfl, ?_⟩)
  ))
--MACEND
/-! ### pieces as data -/
def Pp (H : Hp) (v : V) (p : Pc) : Prop := ∃ a q, v = .ref a ∧ H a = some (.tup [.int p.lo, optV p.hi, .ref q, .int p.per]) ∧ Lp H q p.sp
theorem Pp.ex {H H' : Hp} {v : V} {p : Pc} (e : Ex H H') : Pp H v p → Pp H' v p := fun ⟨a, q, h1, h2, h3⟩ => ⟨a, q, h1, e _ _ h2, h3.ex e⟩
/-- a piece that leans on no list at D -/
def PpD (D : Addr) (H : Hp) (v : V) (p : Pc) : Prop := ∃ a q, v = .ref a ∧ H a = some (.tup [.int p.lo, optV p.hi, .ref q, .int p.per]) ∧ Lp H q p.sp ∧ q ≠ D
theorem PpD.ex {D : Addr} {H H' : Hp} {v : V} {p : Pc} (e : Ex H H') : PpD D H v p → PpD D H' v p := fun ⟨a, q, h1, h2, h3, h4⟩ => ⟨a, q, h1, e _ _ h2, h3.ex e, h4⟩
theorem PpD.mut {D : Addr} {H : Hp} {v : V} {p : Pc} {ys : List V} {o : HO} (hD : H D = some (.lst ys)) : PpD D H v p → PpD D (upd H D o) v p := fun ⟨a, q, h1, h2, ⟨xs, h3, h4⟩, h5⟩ =>
  ⟨a, q, h1, by rw [upd_ne (fun z => by rw [z, hD] at h2; cases h2)]; exact h2, ⟨xs, by rw [upd_ne h5]; exact h3, h4.imp fun _ _ => Pr.mut hD⟩, h5⟩
theorem PpD.pp {D : Addr} {H : Hp} {v : V} {p : Pc} : PpD D H v p → Pp H v p := fun ⟨a, q, h1, h2, h3, _⟩ => ⟨a, q, h1, h2, h3⟩
def Lpc (H : Hp) (q : Addr) (ps : List Pc) : Prop := ∃ xs, H q = some (.lst xs) ∧ Al Pp H xs ps
theorem Lpc.ex {H H' : Hp} {q : Addr} {ps : List Pc} (e : Ex H H') : Lpc H q ps → Lpc H' q ps := fun ⟨xs, h1, h2⟩ => ⟨xs, e _ _ h1, h2.imp fun _ _ => Pp.ex e⟩
theorem Pcs.snoc {r : Int} {g : Int → Bool} {L : List Sx} {ps : List Pc} {s : Sx} {p : Pc} (h : Pcs r g L ps) (k : PcOf r g s p) : Pcs r g (L ++ [s]) (ps ++ [p]) := by
  induction h with
  | nil => exact .cons k .nil
  | cons h _ ih => exact .cons h ih
theorem Pcs.len {r : Int} {g : Int → Bool} {L : List Sx} {ps : List Pc} (h : Pcs r g L ps) : ps.length = L.length := by
  induction h with
  | nil => rfl
  | cons _ _ ih => simp [ih]
def spNumP : Sp := fun vs H Q _ => ∃ l r q L sps, vs = [.ref l, .int r, .ref q] ∧ Lx H l L ∧ (∀ s ∈ L, Wy s) ∧ L.length ≤ 20000 ∧ Lp H q sps ∧ SpOk r sps ∧ sps.length ≤ 20000 ∧
  ∀ q' H' ps, Ex H H' → H q' = none → Lpc H' q' ps → Pcs r (fun v => spB sps (v % r)) L ps → (∀ p ∈ ps, p.sp.length ≤ 2 * sps.length) → Q (.ref q') H'
def spHeardP : Sp := fun vs H Q _ => ∃ l rate L, vs = [.ref l, optV rate] ∧ Lx H l L ∧ L.length ≤ 20000 ∧ (∀ r, rate = some r → 2 ≤ r) ∧
  ∀ q' H' ps, Ex H H' → H q' = none → Lpc H' q' ps → Pcs (rate.getD 1) (fun _ => true) L ps → (∀ p ∈ ps, p.sp.length ≤ 1) → Q (.ref q') H'
section
variable {P : Program} {w : World} {K : PySem.W.Frag} {mg : Str → Option Value} {base : Heap}
abbrev s_number_pieces : Stmt := top 47
theorem sc_number_pieces : FnScope ["stretches", "rate", "spans", "stretch"] ["stretches", "rate", "spans"] (defScope s_number_pieces) := ⟨rfl, rfl, rfl, by decide +kernel, rfl, by decide +kernel, by decide +kernel⟩
theorem ok_number_pieces {f : Addr} {fd : FuncData} (F : Fun K "number_pieces" "number_pieces" s_number_pieces f fd) (h__spans_along : Has P w K mg base 2 "_spans_along" spAlong) : FnOk P w K mg base CX0 3 f fd ["stretches", "rate", "spans"] spNumP := by
  refine F.ok sc_number_pieces (fun vs H Q E h => ?_) (fun cdv A outer s H vs Q E hr h => ?_)
  · obtain ⟨l, r, q, L, sps, rfl, _⟩ := h
    rfl
  · obtain ⟨l, r, q, L, sps, rfl, ⟨xs, hl, hT⟩, hw, hn, hL, ok, hs, k⟩ := h
    refine ⟨_, (pss_one (ps_ret (pe_lc (own := [("stretch", 3)]) (g := gName 3) (by rfl) (sc_number_pieces).nd (pi_list (pv 0)) (blkOk_by (own := [("stretch", 3)]) (N := ["stretches", "rate", "spans", "stretch"]) (sc := defScope s_number_pieces) (by decide +kernel)) (fun _ _ _ _ _ => pg_name (i := 3) (sc_number_pieces).nd rfl (Or.inl rfl)) (fun _ _ _ _ _ => pts_nil) (fun _ _ _ _ _ => (pe_tup (pa_cons (pe_ix (show IxR _ (rIxT K) from ix_tup) (pv 3) pe_int (fun _ _ => rfl)) (pa_cons (pe_ix (show IxR _ (rIxT K) from ix_tup) (pv 3) pe_int (fun _ _ => rfl)) (pa_cons (pe_hs h__spans_along hr rfl (pa_cons (pv 3) (pa_cons (pv 1) (pa_cons (pv 2) pa_nil)))) (pa_cons (pv 1) pa_nil))))))))), ?_⟩
    walk_at "rd"
    refine ⟨⟨xs, .inl (.inl hl)⟩, ?_⟩
    refine run_lcL xs (fun D i G => ∃ ys ps, G D = some (.lst ys) ∧ Al (PpD D) G ys ps ∧ Pcs r (fun v => spB sps (v % r)) (L.take i) ps ∧ (∀ p ∈ ps, p.sp.length ≤ 2 * sps.length) ∧ Ex H G ∧ H D = none) ?_ ?_ ?_ ?_
    · exact fun D hD => ⟨[], [], upd_same, Al.nil, .nil, (fun _ h => nomatch h), Ex.new hD, hD⟩
    · exact fun D i G _ ⟨ys, ps, _, _, _, _, eG, _⟩ => .inl (.inl (eG _ _ hl))
    · rintro D i u G hi ⟨ys, ps, hG, hY, hP, hb, eG, hD⟩
      obtain ⟨s, hs', hu⟩ := hT.get i u hi
      have hv := hu.ex eG
      obtain ⟨a, rfl, ha⟩ := id hv
      walk_at "rd"
      refine ⟨rfl, go_yes (iteT ?_)⟩
      walk_at "rd"
      refine ⟨.ref a, s, r, q, sps, rfl, hv, hw s (List.mem_of_getElem? hs'), hL.ex eG, ok, hs, fun q1 G1 out e1 hf hO hlen o1 o2 => ?_⟩
      walk_at "rd"
      intro p hp
      have x1 := e1.trans (Ex.new (o := HO.tup [.int s.lo, optV s.hi, .ref q1, .int r]) hp)
      have hGx := x1 _ _ hG
      have ne : q1 ≠ D := fresh_ne hG hf
      have len : ys.length ≤ 20000 := by
        rw [hY.len, hP.len, List.length_take]
        omega
      refine ⟨ys, hGx, big5 (by omega), _, ps ++ [⟨s.lo, s.hi, out, r⟩], upd_same, ?_, ?_, fun p' hp' => ?_, Ex.mut (eG.trans x1) hD, hD⟩
      · exact ((hY.imp fun _ _ => PpD.ex x1).snoc (a := ⟨s.lo, s.hi, out, r⟩) ⟨p, q1, rfl, upd_same, hO.ex (Ex.new hp), ne⟩).imp fun _ _ => PpD.mut hGx
      · rw [List.take_succ, hs']
        exact hP.snoc ⟨rfl, rfl, rfl, o1, o2⟩
      · rcases List.mem_append.mp hp' with h | h
        · exact hb p' h
        · rw [List.mem_singleton.mp h]
          exact hlen
    · rintro D G hD ⟨ys, ps, hG, hY, hP, hb, eG, hD'⟩
      rw [List.take_of_length_le (by rw [hT.len]; exact Nat.le_refl _)] at hP
      walk_at "rd"
      exact k D G ps eG hD' ⟨ys, hG, hY.to fun _ _ => PpD.pp⟩ hP hb
abbrev s_heard_pieces : Stmt := top 45
theorem sc_heard_pieces : FnScope ["stretches", "rate", "period", "stretch"] ["stretches", "rate"] (defScope s_heard_pieces) := ⟨rfl, rfl, rfl, by decide +kernel, rfl, by decide +kernel, by decide +kernel⟩
theorem ok_heard_pieces {f : Addr} {fd : FuncData} (F : Fun K "heard_pieces" "heard_pieces" s_heard_pieces f fd) (h_period_of : Has P w K mg base 1 "period_of" spPer) (h_all_spans : Has P w K mg base 1 "all_spans" spAll) : FnOk P w K mg base CX0 2 f fd ["stretches", "rate"] spHeardP := by
  refine F.ok sc_heard_pieces (fun vs H Q E h => ?_) (fun cdv A outer s H vs Q E hr h => ?_)
  · obtain ⟨l, r, L, rfl, _⟩ := h
    rfl
  · obtain ⟨l, rate, L, rfl, ⟨xs, hl, hT⟩, hn, r2, k⟩ := h
    refine ⟨_, (pss_cons (ps_set (i := 2) sc_heard_pieces.nd rfl (Or.inr rfl) (pe_hs h_period_of hr rfl (pa_cons (pv 1) pa_nil)))
  (pss_one (ps_ret (pe_lc (own := [("stretch", 3)]) (g := gName 3) (by rfl) (sc_heard_pieces).nd (pi_list (pv 0)) (blkOk_by (own := [("stretch", 3)]) (N := ["stretches", "rate", "period", "stretch"]) (sc := defScope s_heard_pieces) (by decide +kernel)) (fun _ _ _ _ _ => pg_name (i := 3) (sc_heard_pieces).nd rfl (Or.inl rfl)) (fun _ _ _ _ _ => pts_nil) (fun _ _ _ _ _ => (pe_tup (pa_cons (pe_ix (show IxR _ (rIxT K) from ix_tup) (pv 3) pe_int (fun _ _ => rfl)) (pa_cons (pe_ix (show IxR _ (rIxT K) from ix_tup) (pv 3) pe_int (fun _ _ => rfl)) (pa_cons (pe_hs h_all_spans hr rfl (pa_cons (pv 2) pa_nil)) (pa_cons (pv 2) pa_nil)))))))))), ?_⟩
    walk_at "rd"
    refine ⟨rate, rfl, fun H1 e1 => ?_⟩
    have r1 : 1 ≤ rate.getD 1 := by
      cases rate with
      | none => exact Int.le_refl _
      | some r => have := r2 r rfl; show 1 ≤ r; omega
    generalize rate.getD 1 = r at *
    walk_at "rd"
    have hl1 := e1 _ _ hl
    refine ⟨⟨xs, .inl (.inl hl1)⟩, ?_⟩
    refine run_lcL xs (fun D i G => ∃ ys ps, G D = some (.lst ys) ∧ Al (PpD D) G ys ps ∧ Pcs r (fun _ => true) (L.take i) ps ∧ (∀ p ∈ ps, p.sp.length ≤ 1) ∧ Ex H1 G ∧ H1 D = none) ?_ ?_ ?_ ?_
    · exact fun D hD => ⟨[], [], upd_same, Al.nil, .nil, (fun _ h => nomatch h), Ex.new hD, hD⟩
    · exact fun D i G _ ⟨ys, ps, _, _, _, _, eG, _⟩ => .inl (.inl (eG _ _ hl1))
    · rintro D i u G hi ⟨ys, ps, hG, hY, hP, hb, eG, hD⟩
      obtain ⟨s, hs', hu⟩ := hT.get i u hi
      have hv := hu.ex (e1.trans eG)
      obtain ⟨a, rfl, ha⟩ := id hv
      walk_at "rd"
      refine ⟨rfl, go_yes (iteT ?_)⟩
      walk_at "rd"
      refine ⟨r, rfl, fun q1 G1 e2 hf hO => ?_⟩
      walk_at "rd"
      intro p hp
      have x1 := e2.trans (Ex.new (o := HO.tup [.int s.lo, optV s.hi, .ref q1, .int r]) hp)
      have hGx := x1 _ _ hG
      have ne : q1 ≠ D := fresh_ne hG hf
      have len : ys.length ≤ 20000 := by
        rw [hY.len, hP.len, List.length_take]
        omega
      obtain ⟨o1, o2⟩ := all_ok r1
      refine ⟨ys, hGx, big5 (by omega), _, ps ++ [⟨s.lo, s.hi, [(0, r - 1)], r⟩], upd_same, ?_, ?_, fun p' hp' => ?_, Ex.mut (eG.trans x1) hD, hD⟩
      · exact ((hY.imp fun _ _ => PpD.ex x1).snoc (a := ⟨s.lo, s.hi, [(0, r - 1)], r⟩) ⟨p, q1, rfl, upd_same, hO.ex (Ex.new hp), ne⟩).imp fun _ _ => PpD.mut hGx
      · rw [List.take_succ, hs']
        exact hP.snoc ⟨rfl, rfl, rfl, o1, fun x => o2 x⟩
      · rcases List.mem_append.mp hp' with h | h
        · exact hb p' h
        · rw [List.mem_singleton.mp h]
          exact Nat.le_refl _
    · rintro D G hD ⟨ys, ps, hG, hY, hP, hb, eG, hD'⟩
      rw [List.take_of_length_le (by rw [hT.len]; exact Nat.le_refl _)] at hP
      walk_at "rd"
      exact k D G ps (e1.trans eG) (Evl.fresh_back e1 hD') ⟨ys, hG, hY.to fun _ _ => PpD.pp⟩ hP hb
end
end Kx

set_option Elab.async false
set_option linter.all false
set_option maxRecDepth 100000
set_option maxHeartbeats 4000000

namespace Kx
open PySem PySem.Spec PyProof.Rows L2 HX
open Evl (Ex)
local macro_rules | `(tactic| walk_at "side") => `(tactic| first | assumption | ((try dsimp only); first | assumption | decide +kernel | omega | exact ⟨by decide, by decide⟩ | (left; decide) | (left; omega) | (refine Or.inl ⟨?_, ?_⟩ <;> omega) | (refine Or.inr ⟨?_, ?_⟩ <;> omega)))
local macro_rules | `(tactic| walk_at "heap") => `(tactic| first | assumption | exact upd_same | exact Or.inl (by assumption) | exact Or.inl upd_same)
local macro_rules | `(tactic| walk_at "item") => `(tactic| first | exact rfl | exact atI_nat (j := 0) rfl | exact atI_nat (j := 1) rfl | exact atI_nat (j := 2) rfl | assumption)
local macro_rules | `(tactic| walk_at "rd") => `(tactic| repeat (first
  | ((with_reducible refine' go_var ?hv ?_); (case hv => exact rfl))
  | with_reducible refine' go_c ?_
  | with_reducible refine' go_op ?_
  | with_reducible refine' go_seq ?_
  | with_reducible refine' go_asg ?_
  | with_reducible refine' go_name ?_
  | with_reducible refine' go_cons ?_
  | with_reducible refine' go_nil ?_
  | with_reducible refine' go_cb ?_
  | with_reducible refine' go_call ?_
  | with_reducible refine' go_ifS ?_
  | with_reducible refine' go_test ?_
  | with_reducible refine' go_bl ?_
  | with_reducible refine' go_ret ?_
  | with_reducible refine' go_I0 ?_
  | ((with_reducible refine' go_I ?cc ?_); (case cc => walk_at "side"))
  | ((with_reducible refine' go_ixL ?hh ?hk ?_); (case hh => walk_at "heap"); (case hk => walk_at "item"))
  | ((with_reducible refine' go_ixT ?hh ?hk ?_); (case hh => walk_at "heap"); (case hk => walk_at "item"))
  | ((with_reducible refine' go_lenL ?hh ?_); (case hh => walk_at "heap"))
  | ((with_reducible refine' go_lenT ?hh ?_); (case hh => walk_at "heap"))
  | ((with_reducible refine' go_setL ?hh ?hk ?_); (case hh => walk_at "heap"); (case hk => walk_at "item"))
  | with_reducible refine' go_abs ?_
  | with_reducible refine' go_max ?_
  | with_reducible refine' go_min ?_
  | with_reducible refine' go_int ?_
  | with_reducible refine' go_intB ?_
  | (with_reducible refine' go_eq rfl ?_)
  | (with_reducible refine' go_ne rfl ?_)
  | with_reducible refine' go_isN ?_
  | with_reducible refine' go_notN ?_
  | with_reducible refine' go_if ?_
  | with_reducible refine' go_sub ?_
  | with_reducible refine' go_par ?_
  | with_reducible refine' go_sl ?_
  | with_reducible refine' go_part ?_
  | with_reducible refine' go_pint ?_
  | with_reducible refine' go_nopart ?_
  | ((with_reducible refine' go_lenL ?hh ?_); (case hh => walk_at "heap"))
  | ((with_reducible refine' go_lenT ?hh ?_); (case hh => walk_at "heap"))
  | ((with_reducible refine' go_lenS ?hh ?_); (case hh => assumption))
  | with_reducible refine' go_gcons ?_
  | with_reducible refine' go_gnil ?_
  | with_reducible refine' go_kw ?_
  | with_reducible refine' go_par2 ?_
  | with_reducible refine' go_next ?_
  | with_reducible refine' go_drop ?_
  | with_reducible refine' go_and ?_
  | with_reducible refine' go_or ?_
  | with_reducible refine' go_not ?_
  | with_reducible refine' go_B ?_
  | with_reducible refine' go_andV ?_
  | with_reducible refine' go_orV ?_
  | with_reducible refine' go_notV ?_
  | with_reducible refine' go_chain ?_
  | with_reducible refine' go_un ?_
  | with_reducible refine' go_U ?_
  | with_reducible refine' go_bm ?_
  | with_reducible refine' go_tup ?_
  | with_reducible refine' go_lst ?_
  | with_reducible refine' go_forR1 ?_
  | with_reducible refine' go_forR2 ?_
  | with_reducible refine' go_forL ?_
  | with_reducible refine' go_forT ?_
  | with_reducible refine' go_forE ?_
  | with_reducible refine' go_lcR1 ?_
  | with_reducible refine' go_lcL ?_
  | with_reducible refine' go_lcT ?_
  | ((with_reducible refine' go_tyL ?hh ?_); (case hh => walk_at "heap"))
  | ((with_reducible refine' go_new ?hz ?_); (case hz => exact Nat.le_of_ble_eq_true rfl))
  | (with_reducible refine' ⟨_, rfl, ?_⟩)
  ))
--MACEND
/-- None or a stretch -/
def OTx (H : Hp) (v : V) (o : Option Sx) : Prop := match o with
  | none => v = .non
  | some s => Tx H v s
theorem OTx.ex {H H' : Hp} {v : V} {o : Option Sx} (e : Ex H H') : OTx H v o → OTx H' v o := by
  cases o with
  | none => exact fun h => h
  | some s => exact Tx.ex e
theorem OTx.mut {H : Hp} {v : V} {s : Option Sx} {l : Addr} {ys : List V} {o : HO} (hl : H l = some (.lst ys)) : OTx H v s → OTx (upd H l o) v s := by
  cases s with
  | none => exact fun h => h
  | some s => exact Tx.mut hl
theorem txs_al {H : Hp} {xs : List V} {L : List Sx} (h : Al Tx H xs L) : Txs H xs L := ⟨h.len, h.get⟩
theorem al_txs {H : Hp} {xs : List V} {L : List Sx} (h : Txs H xs L) : Al Tx H xs L := ⟨h.len, h.get⟩
/-- the pieces of the signals with a tone in a band -/
def BandPs (rate : Option Int) (b0 b1 : Int) (L : List Sx) (ps : List Pc) : Prop := match rate with
  | some r => Pcs r (inBand b0 b1 (some r)) L ps
  | none => Pcs 1 (fun _ => true) (L.filterMap fun s => cutN s b0 b1) ps
theorem Pcs.congr {r : Int} {g g' : Int → Bool} {L : List Sx} {ps : List Pc} (h : Pcs r g L ps) (e : ∀ v, g v = g' v) : Pcs r g' L ps := by
  rw [← funext e]
  exact h
def spBandP : Sp := fun vs H Q _ => ∃ l rate v b0 b1 L, vs = [.ref l, optV rate, v] ∧ Lx H l L ∧ (∀ s ∈ L, Wy s) ∧ L.length ≤ 20000 ∧ PrR H v (b0, b1) ∧ 0 ≤ b0 ∧ b0 ≤ b1 ∧ (∀ r, rate = some r → 2 ≤ r) ∧
  ∀ q' H' ps, Ex H H' → H q' = none → Lpc H' q' ps → BandPs rate b0 b1 L ps → (∀ p ∈ ps, p.sp.length ≤ 4) → Q (.ref q') H'
theorem toneS_len (b0 b1 r : Int) : (toneSpans b0 b1 r).length ≤ 2 := Nat.le_trans (List.length_filter_le _ _) (Nat.le_refl _)
def spPart : Sp := fun vs H Q _ => ∃ x ss dial, vs = [x, .int dial] ∧ Dq H x (.list (ss.map Stg.d)) ∧ ss.length ≤ 8 ∧ ∀ q H', Ex H H' → H q = none → Lx H' q (parted (strAt dial ss)) → Q (.ref q) H'
theorem parted_get : ∀ (L : List Sx) (i : Nat), (parted L)[i]? = (L[i]?).map fun s => match L[i + 1]? with
    | some t => if s.hi = some t.lo then { s with hi := some (t.lo - 1) } else s
    | none => s
  | [], i => by simp [parted]
  | [s], i => by
    cases i with
    | zero => rfl
    | succ i => rfl
  | s :: u :: r, i => by
    cases i with
    | zero => rfl
    | succ i =>
      show (parted (u :: r))[i]? = _
      rw [parted_get (u :: r) i]
      rfl
section
variable {P : Program} {w : World} {K : PySem.W.Frag} {mg : Str → Option Value} {base : Heap}
abbrev s_band_pieces : Stmt := top 46
theorem sc_band_pieces : FnScope ["stretches", "rate", "band", "parts", "stretch", "part"] ["stretches", "rate", "band"] (defScope s_band_pieces) := ⟨rfl, rfl, rfl, by decide +kernel, rfl, by decide +kernel, by decide +kernel⟩
theorem ok_band_pieces {f : Addr} {fd : FuncData} (F : Fun K "band_pieces" "band_pieces" s_band_pieces f fd) (h_number_pieces : Has P w K mg base 3 "number_pieces" spNumP) (h_tone_spans : Has P w K mg base 1 "tone_spans" spBand)
    (h_cut_to_numbers : Has P w K mg base 2 "cut_to_numbers" spCutN) (h_heard_pieces : Has P w K mg base 2 "heard_pieces" spHeardP) : FnOk P w K mg base CX0 4 f fd ["stretches", "rate", "band"] spBandP := by
  refine F.ok sc_band_pieces (fun vs H Q E h => ?_) (fun cdv A outer s H vs Q E hr h => ?_)
  · obtain ⟨l, r, v, b0, b1, L, rfl, _⟩ := h
    rfl
  · obtain ⟨l, rate, v, b0, b1, L, rfl, hL, hw, hn, hv, h0, h1, r2, k⟩ := h
    refine ⟨_, (pss_cons (ps_if (pt_cmpR op_notN1 (pv 1) pe_non (nomark _))
  (pss_one (ps_ret (pe_hs h_number_pieces hr rfl (pa_cons (pv 0) (pa_cons (pv 1) (pa_cons (pe_hs h_tone_spans hr rfl (pa_cons (pv 2) (pa_cons (pv 1) pa_nil))) pa_nil))))))
  pss_nil)
  (pss_cons (ps_setLc (i := 3) (own := [("stretch", 4)]) (g := gName 4) (by rfl) sc_band_pieces.nd rfl rfl (sw_true rfl rfl rfl (by decide +kernel)) (pi_list (pv 0)) (blkOk_by (own := [("stretch", 4)]) (N := ["stretches", "rate", "band", "parts", "stretch", "part"]) (sc := defScope s_band_pieces) (by decide +kernel)) (fun _ _ _ _ _ => pg_name (i := 4) (sc_band_pieces).nd rfl (Or.inl rfl)) (fun _ _ _ _ _ => pts_nil) (fun _ _ _ _ _ => (pe_hs h_cut_to_numbers hr rfl (pa_cons (pv 4) (pa_cons (pe_ix (show IxR _ (rIxT K) from ix_tup) (pv 2) pe_int (fun _ _ => rfl)) (pa_cons (pe_ix (show IxR _ (rIxT K) from ix_tup) (pv 2) pe_int (fun _ _ => rfl)) pa_nil))))))
  (pss_one (ps_ret (pe_hs h_heard_pieces hr rfl (pa_cons (pe_lc (own := [("part", 5)]) (g := gName 5) (by rfl) (sc_band_pieces).nd (pi_list (pv 3)) (blkOk_by (own := [("part", 5)]) (N := ["stretches", "rate", "band", "parts", "stretch", "part"]) (sc := defScope s_band_pieces) (by decide +kernel)) (fun _ _ _ _ _ => pg_name (i := 5) (sc_band_pieces).nd rfl (Or.inl rfl)) (fun _ _ _ _ _ => (pts_one (pt_cmpR op_notN1 (pv 5) pe_non (nomark _)))) (fun _ _ _ _ _ => (pv 5))) (pa_cons pe_non pa_nil))))))), ?_⟩
    cases rate with
    | some r =>
      rw [show optV (some r) = V.int r from rfl]
      walk_at "rd"
      refine ite2 (fun _ => ?_) (fun c => absurd (by simp) c)
      walk_at "rd"
      refine ⟨v, b0, b1, r, rfl, hv, fun q H1 e1 hf hq => ?_⟩
      walk_at "rd"
      have ok := tone_ok h0 h1 (r2 r rfl)
      refine ⟨l, r, q, L, _, rfl, hL.ex e1, hw, hn, hq, ok, Nat.le_trans (toneS_len _ _ _) (by decide), fun q' H2 ps e2 hf2 hP hc hb => ?_⟩
      refine k q' H2 ps (e1.trans e2) (Evl.fresh_back e1 hf2) hP ?_ fun p hp => Nat.le_trans (hb p hp) (by have := toneS_len b0 b1 r; omega)
      exact hc.congr fun v => tone_in h0 h1 (r2 r rfl)
    | none =>
      rw [show optV none = V.non from rfl]
      walk_at "rd"
      refine ite2 (fun c => absurd c (by simp)) (fun _ => ?_)
      obtain ⟨xs, hl, hT⟩ := hL
      walk_at "rd"
      refine ⟨⟨xs, .inl (.inl hl)⟩, ?_⟩
      refine run_lcL xs (fun D i G => ∃ ys, G D = some (.lst ys) ∧ Al OTx G ys ((L.take i).map fun s => cutN s b0 b1) ∧ Ex H G ∧ H D = none) ?_ ?_ ?_ ?_
      · exact fun D hD => ⟨[], upd_same, Al.nil, Ex.new hD, hD⟩
      · exact fun D i G _ ⟨ys, _, _, eG, _⟩ => .inl (.inl (eG _ _ hl))
      · rintro D i u G hi ⟨ys, hG, hY, eG, hD⟩
        obtain ⟨s, hs', hu⟩ := hT.get i u hi
        obtain ⟨a, rfl, ha⟩ := hv
        have ha' := Evl.ex_rd eG ha
        walk_at "rd"
        refine ⟨rfl, go_yes (iteT ?_)⟩
        walk_at "rd"
        refine ⟨u, s, b0, b1, rfl, hu.ex eG, hw s (List.mem_of_getElem? hs'), ?_⟩
        have len : ys.length ≤ 20000 := by
          rw [hY.len, List.length_map, List.length_take]
          omega
        rw [List.take_succ, hs', List.map_append]
        cases hc : cutN s b0 b1 with
        | none =>
          intro G1 e1
          have hGx := e1 _ _ hG
          refine ⟨ys, hGx, big5 (by omega), _, upd_same, ?_, Ex.mut (eG.trans e1) hD, hD⟩
          show Al OTx _ _ (_ ++ [cutN s b0 b1])
          rw [hc]
          exact ((hY.imp fun _ _ => OTx.ex e1).snoc (a := none) rfl).imp fun _ _ => OTx.mut hGx
        | some t =>
          intro p G1 e1 hp
          have hGx := e1 _ _ hG
          refine ⟨ys, hGx, big5 (by omega), _, upd_same, ?_, Ex.mut (eG.trans e1) hD, hD⟩
          show Al OTx _ _ (_ ++ [cutN s b0 b1])
          rw [hc]
          exact ((hY.imp fun _ _ => OTx.ex e1).snoc (a := some t) ⟨p, rfl, hp⟩).imp fun _ _ => OTx.mut hGx
      rintro D1 G1 hD1 ⟨ys, hy, hY, e1, _⟩
      rw [List.take_of_length_le (by rw [hT.len]; exact Nat.le_refl _)] at hY
      walk_at "rd"
      refine ⟨⟨ys, .inl (.inl hy)⟩, ?_⟩
      refine run_lcL ys (fun D i G => ∃ zs, G D = some (.lst zs) ∧ Al Tx G zs ((L.take i).filterMap fun s => cutN s b0 b1) ∧ Ex G1 G ∧ G1 D = none) ?_ ?_ ?_ ?_
      · exact fun D hD => ⟨[], upd_same, Al.nil, Ex.new hD, hD⟩
      · exact fun D i G _ ⟨zs, _, _, eG, _⟩ => .inl (.inl (eG _ _ hy))
      · rintro D i u G hi ⟨zs, hG, hZ, eG, hD⟩
        obtain ⟨o, ho, hu⟩ := hY.get i u hi
        rw [List.getElem?_map] at ho
        obtain ⟨s, hs', rfl⟩ := Option.map_eq_some_iff.mp ho
        have hu := hu.ex eG
        walk_at "rd"
        refine ⟨rfl, ?_⟩
        rw [List.take_succ, hs', List.filterMap_append]
        have one : ((some s).toList.filterMap fun s => cutN s b0 b1) = (cutN s b0 b1).toList := by
          rw [show (some s).toList = [s] from rfl, List.filterMap_cons]
          cases cutN s b0 b1 <;> rfl
        rw [one]
        have len : zs.length ≤ 20000 := by
          rw [hZ.len]
          refine Nat.le_trans (List.length_filterMap_le _ _) ?_
          rw [List.length_take]
          omega
        walk_at "rd"
        cases hc : cutN s b0 b1 with
        | none =>
          rw [hc] at hu
          obtain rfl : u = .non := hu
          refine ite2 (fun c => absurd c (by simp)) (fun _ => ?_)
          rw [show (none : Option Sx).toList = [] from rfl, List.append_nil]
          exact ⟨zs, hG, hZ, eG, hD⟩
        | some t =>
          rw [hc] at hu
          obtain ⟨a, rfl, ha⟩ := id hu
          refine ite2 (fun _ => ?_) (fun c => absurd (by simp) c)
          walk_at "rd"
          exact ⟨zs, hG, big5 (by omega), _, upd_same, (hZ.snoc (a := t) hu).imp fun _ _ => Tx.mut hG, Ex.mut eG hD, hD⟩
      rintro D2 G2 hD2 ⟨zs, hz, hZ, e2, _⟩
      rw [List.take_of_length_le (by rw [hY.len, List.length_map]; exact Nat.le_refl _)] at hZ
      walk_at "rd"
      refine ⟨D2, none, _, rfl, ⟨zs, hz, txs_al hZ⟩, Nat.le_trans (List.length_filterMap_le _ _) hn, (fun r h => nomatch h), fun q' H' ps e' hf hP hc hb => ?_⟩
      exact k q' H' ps ((e1.trans e2).trans e') (Evl.fresh_back (e1.trans e2) hf) hP hc fun p hp => Nat.le_trans (hb p hp) (by decide)
abbrev s_parted_stretches : Stmt := top 31
theorem sc_parted_stretches : FnScope ["stages", "dial", "stretches", "parted", "index", "least", "greatest", "number", "way", "is_shared"] ["stages", "dial"] (defScope s_parted_stretches) := ⟨rfl, rfl, rfl, by decide +kernel, rfl, by decide +kernel, by decide +kernel⟩
theorem ok_parted {f : Addr} {fd : FuncData} (F : Fun K "parted_stretches" "parted_stretches" s_parted_stretches f fd) (m_enumerate : mg "enumerate" = none) (m_len : mg "len" = none) (h_stretches_at : Has P w K mg base 4 "stretches_at" spStr) : FnOk P w K mg base CX0 5 f fd ["stages", "dial"] spPart := by
  refine F.ok sc_parted_stretches (fun vs H Q E h => ?_) (fun cdv A outer s H vs Q E hr h => ?_)
  · obtain ⟨x, ss, dial, rfl, _⟩ := h
    rfl
  · obtain ⟨x, ss, dial, rfl, hx, h8, k⟩ := h
    refine ⟨_, (pss_cons (ps_set (i := 2) sc_parted_stretches.nd rfl (Or.inl rfl) (pe_hs h_stretches_at hr rfl (pa_cons (pv 0) (pa_cons (pv 1) pa_nil))))
  (pss_cons (ps_set (i := 3) sc_parted_stretches.nd rfl (Or.inl rfl) (pe_lst pa_nil))
  (pss_cons (ps_for PassesOwn.never rfl (pi_enum (by rfl) m_enumerate (pa_cons (pv 2) pa_nil)) (pg_tup (by rfl) (pgs_cons (pg_name (i := 4) sc_parted_stretches.nd rfl (Or.inl rfl)) (pgs_cons (pg_tup (by rfl) (pgs_cons (pg_name (i := 5) sc_parted_stretches.nd rfl (Or.inl rfl)) (pgs_cons (pg_name (i := 6) sc_parted_stretches.nd rfl (Or.inl rfl)) (pgs_cons (pg_name (i := 7) sc_parted_stretches.nd rfl (Or.inl rfl)) (pgs_cons (pg_name (i := 8) sc_parted_stretches.nd rfl (Or.inl rfl)) pgs_nil))))) pgs_nil)))
  (pss_cons (ps_set (i := 9) sc_parted_stretches.nd rfl (Or.inl rfl) (pe_and (pe_cmpR op_lt (pe_op op_add (pv 4) pe_int) (pe_callB call_lenQ rfl m_len PySem.boot_len (pa_cons (pv 2) pa_nil)) (nomark _)) (pe_one (pe_cmpR op_eq (pe_ix ix_tup (pe_ix ix_list (pv 2) (pe_op op_add (pv 4) pe_int) (fun _ _ => rfl)) pe_int (fun _ _ => rfl)) (pv 6) (nomark _)))))
  (pss_one (ps_expr (pe_bm PySem.F.plainAttrs_list PySem.F.slot_list_append PySem.F.type_list_append mt_append (pv 3) (pa_cons (pe_tup (pa_cons (pv 5) (pa_cons (pe_ifExp (pt_val (pv 9)) (pe_op op_sub (pv 6) pe_int) (pv 6)) (pa_cons (pv 7) (pa_cons (pv 8) pa_nil))))) pa_nil))))))
  (pss_one (ps_ret (pv 3)))))), ?_⟩
    walk_at "rd"
    refine ⟨x, ss, dial, rfl, hx, h8, fun q H1 e1 hL => ?_⟩
    obtain ⟨xs, hq, hT⟩ := hL
    have len : (strAt dial ss).length ≤ 256 := Nat.le_trans (str_ok dial ss).2 (Nat.le_trans (Nat.pow_le_pow_right (by decide) h8) (by decide))
    generalize strAt dial ss = L at *
    walk_at "rd"
    intro a ha
    have e2 := Ex.new (o := HO.lst []) ha
    have E2 := e1.trans e2
    have hq2 := e2 _ _ hq
    walk_at "rd"
    refine ⟨q, xs, rfl, .inl (.inl hq2), ?_⟩
    refine run_forE xs (fun i σ G => ∃ (ys : List V) (v4 v5 v6 v7 v8 v9 : Option V), σ = [some x, some (.int dial), some (.ref q), some (.ref a), v4, v5, v6, v7, v8, v9] ∧ Ex H1 G ∧ G a = some (.lst ys) ∧ Al Tx G ys ((parted L).take i)) ?_ ?_ ?_ ?_
    · exact ⟨[], _, _, _, _, _, _, rfl, e2, upd_same, Al.nil⟩
    · rintro i σ G _ ⟨ys, _, _, _, _, _, _, rfl, e, _, _⟩
      exact .inl (.inl (e _ _ hq))
    · rintro i v σ G T hi ⟨ys, v4, v5, v6, v7, v8, v9, rfl, e, hG, hY⟩ hT0
      obtain ⟨s, hs, b, rfl, hb⟩ := hT.get i v hi
      have xT := Ex.new (o := HO.tup [.int (i : Nat), .ref b]) hT0
      have hG1 := xT _ _ hG
      have hY1 := hY.imp fun _ _ => Tx.ex xT
      have hTt : upd G T (.tup [.int (i : Nat), .ref b]) T = some (.tup [.int (i : Nat), .ref b]) := upd_same
      have eT := e.trans xT
      have pg := parted_get L i
      rw [hs] at pg
      have ltx : i < xs.length := (List.getElem?_eq_some_iff.mp hi).1
      have lenT : T ≠ a := fun z => by rw [z, hG] at hT0; cases hT0
      generalize upd G T (.tup [.int (i : Nat), .ref b]) = G2 at *
      refine go_gtup (.inl (.inl hTt)) rfl ?_
      walk_at "rd"
      have hqG := eT _ _ hq
      have len2 : ys.length ≤ 256 := by
        rw [hY.len, List.length_take, parted_len]
        omega
      have fin : ∀ (vt : Option V) (bl : Bool) (g : Option Int) (pt : Sx), (parted L)[i]? = some pt → pt.lo = s.lo → pt.num = s.num → pt.way = s.way → pt.hi = g → ∀ p, G2 p = none → ∃ (ys' : List V) (v4 v5 v6 v7 v8 v9 : Option V),
          [some x, some (.int dial), some (.ref q), some (.ref a), some (.int (i : Nat)), some (.int s.lo), some (optV s.hi), some (.int s.num), some (.int s.way), some (.bl bl)] = [some x, some (.int dial), some (.ref q), some (.ref a), v4, v5, v6, v7, v8, v9] ∧
          Ex H1 (upd (upd G2 p (.tup [.int s.lo, optV g, .int s.num, .int s.way])) a (.lst (ys ++ [.ref p]))) ∧ (upd (upd G2 p (.tup [.int s.lo, optV g, .int s.num, .int s.way])) a (.lst (ys ++ [.ref p]))) a = some (.lst ys') ∧ Al Tx (upd (upd G2 p (.tup [.int s.lo, optV g, .int s.num, .int s.way])) a (.lst (ys ++ [.ref p]))) ys' ((parted L).take (i + 1)) := fun vt bl g pt h1 h2 h3 h4 h5 p hp => by
        have x1 := Ex.new (o := HO.tup [.int s.lo, optV g, .int s.num, .int s.way]) hp
        refine ⟨_, _, _, _, _, _, _, rfl, Ex.mut (eT.trans x1) ha, upd_same, ?_⟩
        rw [List.take_succ, h1]
        refine ((hY1.imp fun _ _ => Tx.ex x1).snoc (a := pt) ⟨p, rfl, ?_⟩).imp fun _ _ => Tx.mut (x1 _ _ hG1)
        unfold Sx.v
        rw [h2, h3, h4, h5]
        exact upd_same
      have hG3 : ∀ p o, G2 p = none → upd G2 p o a = some (.lst ys) := fun p o hp => Ex.new hp _ _ hG1
      refine go_gtup (.inl (.inl (eT _ _ hb))) rfl ?_
      walk_at "rd"
      refine ite2 (fun c => ?_) (fun c => ?_)
      · have c' : i + 1 < xs.length := by have := of_decide_eq_true c; omega
        obtain ⟨t, ht, b2, e2', hb2⟩ := hT.get (i + 1) xs[i + 1] (List.getElem?_eq_getElem c')
        rw [ht] at pg
        walk_at "rd"
        refine go_ixL (.inl hqG) (v := .ref b2) ?_ ?_
        · rw [show (i : Int) + 1 = ((i + 1 : Nat) : Int) by omega, ← e2']
          exact atI_nat (List.getElem?_eq_getElem c')
        have hb2' := eT _ _ hb2
        walk_at "rd"
        refine go_eq (by cases s.hi <;> rfl) ?_
        walk_at "rd"
        have cc : decide (V.int t.lo = optV s.hi) = decide (s.hi = some t.lo) := by
          cases s.hi with
          | none => rw [show optV none = V.non from rfl, decide_eq_false (by simp), decide_eq_false (by simp)]
          | some g =>
            rw [show optV (some g) = V.int g from rfl]
            by_cases z : g = t.lo
            · rw [z, decide_eq_true rfl, decide_eq_true rfl]
            · rw [decide_eq_false (fun y => z (by cases y; rfl)), decide_eq_false (fun y => z (by cases y; rfl))]
        rw [cc]
        refine ite2 (fun c => ?_) (fun c => ?_)
        · have c2 : s.hi = some t.lo := of_decide_eq_true c
          rw [c2, show optV (some t.lo) = V.int t.lo from rfl]
          walk_at "rd"
          intro p hp
          walk_at "rd"
          refine go_app (hG3 p _ hp) (big5 (by omega)) ?_
          have := fin none (decide (some t.lo = some t.lo)) (some (t.lo - 1)) { s with hi := some (t.lo - 1) } (by rw [pg]; show some (if _ then _ else _) = _; rw [if_pos c2]) rfl rfl rfl rfl p hp
          rw [c2] at this
          exact this
        · have c2 : ¬ s.hi = some t.lo := fun z => c (decide_eq_true z)
          walk_at "rd"
          intro p hp
          walk_at "rd"
          refine go_app (hG3 p _ hp) (big5 (by omega)) ?_
          exact fin none _ s.hi s (by rw [pg]; show some (if _ then _ else _) = _; rw [if_neg c2]) rfl rfl rfl rfl p hp
      · have c' : ¬ i + 1 < xs.length := fun z => c (decide_eq_true (by omega))
        have hn : L[i + 1]? = none := by rw [List.getElem?_eq_none_iff, ← hT.len]; omega
        rw [hn] at pg
        walk_at "rd"
        refine iteF ?_
        walk_at "rd"
        intro p hp
        walk_at "rd"
        refine go_app (hG3 p _ hp) (big5 (by omega)) ?_
        exact fin none _ s.hi s pg rfl rfl rfl rfl p hp
    · rintro σ G ⟨ys, v4, v5, v6, v7, v8, v9, rfl, e, hG, hY⟩
      rw [List.take_of_length_le (by rw [parted_len, hT.len]; exact Nat.le_refl _)] at hY
      walk_at "rd"
      exact k a G (e1.trans e) (Evl.fresh_back e1 ha) ⟨ys, hG, txs_al hY⟩
end
end Kx

set_option Elab.async false
set_option linter.all false
set_option maxRecDepth 100000
set_option maxHeartbeats 4000000

namespace Kx
open PySem PySem.Spec PyProof.Rows L2 HX
open Evl (Ex)
local macro_rules | `(tactic| walk_at "side") => `(tactic| first | assumption | ((try dsimp only); first | assumption | decide +kernel | omega | exact ⟨by decide, by decide⟩ | (left; decide) | (left; omega) | (refine Or.inl ⟨?_, ?_⟩ <;> omega) | (refine Or.inr ⟨?_, ?_⟩ <;> omega)))
local macro_rules | `(tactic| walk_at "heap") => `(tactic| first | assumption | exact upd_same | exact Or.inl (by assumption) | exact Or.inl upd_same)
local macro_rules | `(tactic| walk_at "item") => `(tactic| first | exact rfl | exact atI_nat (j := 0) rfl | exact atI_nat (j := 1) rfl | exact atI_nat (j := 2) rfl | assumption)
local macro_rules | `(tactic| walk_at "rd") => `(tactic| repeat (first
  | ((with_reducible refine' go_var ?hv ?_); (case hv => exact rfl))
  | with_reducible refine' go_c ?_
  | with_reducible refine' go_op ?_
  | with_reducible refine' go_seq ?_
  | with_reducible refine' go_asg ?_
  | with_reducible refine' go_name ?_
  | with_reducible refine' go_cons ?_
  | with_reducible refine' go_nil ?_
  | with_reducible refine' go_cb ?_
  | with_reducible refine' go_call ?_
  | with_reducible refine' go_ifS ?_
  | with_reducible refine' go_test ?_
  | with_reducible refine' go_bl ?_
  | with_reducible refine' go_ret ?_
  | with_reducible refine' go_I0 ?_
  | ((with_reducible refine' go_I ?cc ?_); (case cc => walk_at "side"))
  | ((with_reducible refine' go_ixL ?hh ?hk ?_); (case hh => walk_at "heap"); (case hk => walk_at "item"))
  | ((with_reducible refine' go_ixT ?hh ?hk ?_); (case hh => walk_at "heap"); (case hk => walk_at "item"))
  | ((with_reducible refine' go_lenL ?hh ?_); (case hh => walk_at "heap"))
  | ((with_reducible refine' go_lenT ?hh ?_); (case hh => walk_at "heap"))
  | ((with_reducible refine' go_setL ?hh ?hk ?_); (case hh => walk_at "heap"); (case hk => walk_at "item"))
  | with_reducible refine' go_abs ?_
  | with_reducible refine' go_max ?_
  | with_reducible refine' go_min ?_
  | with_reducible refine' go_int ?_
  | with_reducible refine' go_intB ?_
  | (with_reducible refine' go_eq rfl ?_)
  | (with_reducible refine' go_ne rfl ?_)
  | with_reducible refine' go_isN ?_
  | with_reducible refine' go_notN ?_
  | with_reducible refine' go_if ?_
  | with_reducible refine' go_sub ?_
  | with_reducible refine' go_par ?_
  | with_reducible refine' go_sl ?_
  | with_reducible refine' go_part ?_
  | with_reducible refine' go_pint ?_
  | with_reducible refine' go_nopart ?_
  | ((with_reducible refine' go_lenL ?hh ?_); (case hh => walk_at "heap"))
  | ((with_reducible refine' go_lenT ?hh ?_); (case hh => walk_at "heap"))
  | ((with_reducible refine' go_lenS ?hh ?_); (case hh => assumption))
  | with_reducible refine' go_gcons ?_
  | with_reducible refine' go_gnil ?_
  | with_reducible refine' go_kw ?_
  | with_reducible refine' go_par2 ?_
  | with_reducible refine' go_next ?_
  | with_reducible refine' go_drop ?_
  | with_reducible refine' go_and ?_
  | with_reducible refine' go_or ?_
  | with_reducible refine' go_not ?_
  | with_reducible refine' go_B ?_
  | with_reducible refine' go_andV ?_
  | with_reducible refine' go_orV ?_
  | with_reducible refine' go_notV ?_
  | with_reducible refine' go_chain ?_
  | with_reducible refine' go_un ?_
  | with_reducible refine' go_U ?_
  | with_reducible refine' go_bm ?_
  | with_reducible refine' go_tup ?_
  | with_reducible refine' go_lst ?_
  | with_reducible refine' go_forR1 ?_
  | with_reducible refine' go_forR2 ?_
  | with_reducible refine' go_forL ?_
  | with_reducible refine' go_forT ?_
  | with_reducible refine' go_forE ?_
  | with_reducible refine' go_lcR1 ?_
  | with_reducible refine' go_lcL ?_
  | with_reducible refine' go_lcT ?_
  | ((with_reducible refine' go_tyL ?hh ?_); (case hh => walk_at "heap"))
  | ((with_reducible refine' go_new ?hz ?_); (case hz => exact Nat.le_of_ble_eq_true rfl))
  | (with_reducible refine' ⟨_, rfl, ?_⟩)
  ))
--MACEND
structure PcB (p : Pc) : Prop where
  ok : PcOk p
  len : p.sp.length ≤ 100000
  lo : Sm p.lo
  hi : ∀ g, p.hi = some g → Sm g
  per : Sm p.per
structure PsB (ps : List Pc) : Prop where
  ok : PsOk ps
  b : ∀ p ∈ ps, PcB p
  len : ps.length ≤ 100000
theorem sm_add1 {x : Int} (h : Sm x) : Wd (x + 1) := by
  have h1 : (x + 1).natAbs ≤ x.natAbs + 1 := by omega
  have h2 : (2 : Nat) ^ 3000 + 1 ≤ 2 ^ 3400 := by decide +kernel
  show (x + 1).natAbs < 2 ^ 3400
  have h3 : x.natAbs < 2 ^ 3000 := h
  omega
def Ix (i : Int) : Prop := i.natAbs < 2 ^ 3300
theorem ix_add {a i : Int} (h : Sm a) (k : Ix i) : Wd (a + i) := by
  have h1 : a.natAbs < 2 ^ 3000 := h
  have h2 : i.natAbs < 2 ^ 3300 := k
  have h3 : (2 : Nat) ^ 3000 + 2 ^ 3300 ≤ 2 ^ 3400 := by decide +kernel
  show (a + i).natAbs < 2 ^ 3400
  omega
def spCA : Sp := fun vs H Q _ => ∃ v p, vs = [v] ∧ Pp H v p ∧ PcB p ∧ ∀ H', Ex H H' → Q (optV (countAlong p)) H'
def spPA : Sp := fun vs H Q _ => ∃ v p i, vs = [v, .int i] ∧ Pp H v p ∧ PcB p ∧ Ix i ∧ p.sp ≠ [] ∧ ∀ H', Ex H H' → Q (optV (placeAlong p i)) H'
def spCT : Sp := fun vs H Q _ => ∃ q ps far, vs = [.ref q, .int far] ∧ Lpc H q ps ∧ PsB ps ∧ Sm far ∧ ∀ H', Ex H H' → Q (.int (countTo ps far)) H'
def spPAt : Sp := fun vs H Q _ => ∃ q ps i, vs = [.ref q, .int i] ∧ Lpc H q ps ∧ PsB ps ∧ 0 ≤ i ∧ Ix i ∧ ∀ H', Ex H H' → Q (optV (placeAt ps i)) H'
def spFF : Sp := fun vs H Q _ => ∃ q ps x, vs = [.ref q, .int x] ∧ Lpc H q ps ∧ PsB ps ∧ 0 ≤ x ∧ Sm x ∧ ∀ H', Ex H H' → Q (optV (firstFrom ps x)) H'
def spLT : Sp := fun vs H Q _ => ∃ q ps x, vs = [.ref q, .int x] ∧ Lpc H q ps ∧ PsB ps ∧ 0 ≤ x ∧ Sm x ∧ ∀ H', Ex H H' → Q (optV (lastTo ps x)) H'
theorem countTo_snoc (ps : List Pc) (p : Pc) (far : Int) : countTo (ps ++ [p]) far = countTo ps far + cto far p := by
  unfold countTo
  rw [List.map_append, List.sum_append]
  simp
theorem placeAt_cons (p : Pc) (ps : List Pc) (left : Int) : placeAt (p :: ps) left = match countAlong p with
    | none => placeAlong p left
    | some m => if left < m then placeAlong p left else placeAt ps (left - m) := rfl
theorem cnt_le (R : Int → Bool) : ∀ n : Nat, cnt R n ≤ n
  | 0 => Int.le_refl _
  | n + 1 => by
    have := cnt_le R n
    have hb : bI (R n) ≤ 1 := by cases R n <;> decide
    rw [cnt_succ]
    omega
theorem countTo_bd {ps : List Pc} (k : PsOk ps) {x : Int} (h : -1 ≤ x) : 0 ≤ countTo ps x ∧ countTo ps x ≤ x + 1 := by
  rw [countTo_at k h]
  have h1 := cnt_nn (hasB ps) (x + 1).toNat
  have h2 := cnt_le (hasB ps) (x + 1).toNat
  omega
theorem sm_ix {x y : Int} (h : Sm x) (l : y.natAbs ≤ x.natAbs + 1) : Ix y := by
  have h1 : x.natAbs < 2 ^ 3000 := h
  have h2 : (2 : Nat) ^ 3000 + 1 ≤ 2 ^ 3300 := by decide +kernel
  show y.natAbs < 2 ^ 3300
  omega
theorem sm_le {x y : Int} (h : Sm x) (l : y.natAbs ≤ x.natAbs) : Sm y := Nat.lt_of_le_of_lt l h
theorem sm_one : Sm 1 := by show (1 : Nat) < 2 ^ 3000; decide +kernel
section
variable {P : Program} {w : World} {K : PySem.W.Frag} {mg : Str → Option Value} {base : Heap}
end
end Kx

set_option Elab.async false
set_option linter.all false
set_option maxRecDepth 100000
set_option maxHeartbeats 4000000

namespace Kx
open PySem PySem.Spec PyProof.Rows L2 HX
open Evl (Ex)
local macro_rules | `(tactic| walk_at "side") => `(tactic| first | assumption | ((try dsimp only); first | assumption | decide +kernel | omega | exact ⟨by decide, by decide⟩ | (left; decide) | (left; omega) | (refine Or.inl ⟨?_, ?_⟩ <;> omega) | (refine Or.inr ⟨?_, ?_⟩ <;> omega)))
local macro_rules | `(tactic| walk_at "heap") => `(tactic| first | assumption | exact upd_same | exact Or.inl (by assumption) | exact Or.inl upd_same)
local macro_rules | `(tactic| walk_at "item") => `(tactic| first | exact rfl | exact atI_nat (j := 0) rfl | exact atI_nat (j := 1) rfl | exact atI_nat (j := 2) rfl | assumption)
local macro_rules | `(tactic| walk_at "rd") => `(tactic| repeat (first
  | ((with_reducible refine' go_var ?hv ?_); (case hv => exact rfl))
  | with_reducible refine' go_c ?_
  | with_reducible refine' go_op ?_
  | with_reducible refine' go_seq ?_
  | with_reducible refine' go_asg ?_
  | with_reducible refine' go_name ?_
  | with_reducible refine' go_cons ?_
  | with_reducible refine' go_nil ?_
  | with_reducible refine' go_cb ?_
  | with_reducible refine' go_call ?_
  | with_reducible refine' go_ifS ?_
  | with_reducible refine' go_test ?_
  | with_reducible refine' go_bl ?_
  | with_reducible refine' go_ret ?_
  | with_reducible refine' go_I0 ?_
  | ((with_reducible refine' go_I ?cc ?_); (case cc => walk_at "side"))
  | ((with_reducible refine' go_ixL ?hh ?hk ?_); (case hh => walk_at "heap"); (case hk => walk_at "item"))
  | ((with_reducible refine' go_ixT ?hh ?hk ?_); (case hh => walk_at "heap"); (case hk => walk_at "item"))
  | ((with_reducible refine' go_lenL ?hh ?_); (case hh => walk_at "heap"))
  | ((with_reducible refine' go_lenT ?hh ?_); (case hh => walk_at "heap"))
  | ((with_reducible refine' go_setL ?hh ?hk ?_); (case hh => walk_at "heap"); (case hk => walk_at "item"))
  | with_reducible refine' go_abs ?_
  | with_reducible refine' go_max ?_
  | with_reducible refine' go_min ?_
  | with_reducible refine' go_int ?_
  | with_reducible refine' go_intB ?_
  | (with_reducible refine' go_eq rfl ?_)
  | (with_reducible refine' go_ne rfl ?_)
  | with_reducible refine' go_isN ?_
  | with_reducible refine' go_notN ?_
  | with_reducible refine' go_if ?_
  | with_reducible refine' go_sub ?_
  | with_reducible refine' go_par ?_
  | with_reducible refine' go_sl ?_
  | with_reducible refine' go_part ?_
  | with_reducible refine' go_pint ?_
  | with_reducible refine' go_nopart ?_
  | ((with_reducible refine' go_lenL ?hh ?_); (case hh => walk_at "heap"))
  | ((with_reducible refine' go_lenT ?hh ?_); (case hh => walk_at "heap"))
  | ((with_reducible refine' go_lenS ?hh ?_); (case hh => assumption))
  | with_reducible refine' go_gcons ?_
  | with_reducible refine' go_gnil ?_
  | with_reducible refine' go_kw ?_
  | with_reducible refine' go_par2 ?_
  | with_reducible refine' go_next ?_
  | with_reducible refine' go_drop ?_
  | with_reducible refine' go_and ?_
  | with_reducible refine' go_or ?_
  | with_reducible refine' go_not ?_
  | with_reducible refine' go_B ?_
  | with_reducible refine' go_andV ?_
  | with_reducible refine' go_orV ?_
  | with_reducible refine' go_notV ?_
  | with_reducible refine' go_chain ?_
  | with_reducible refine' go_un ?_
  | with_reducible refine' go_U ?_
  | with_reducible refine' go_bm ?_
  | with_reducible refine' go_tup ?_
  | with_reducible refine' go_lst ?_
  | with_reducible refine' go_forR1 ?_
  | with_reducible refine' go_forR2 ?_
  | with_reducible refine' go_forL ?_
  | with_reducible refine' go_forT ?_
  | with_reducible refine' go_forE ?_
  | with_reducible refine' go_lcR1 ?_
  | with_reducible refine' go_lcL ?_
  | with_reducible refine' go_lcT ?_
  | ((with_reducible refine' go_tyL ?hh ?_); (case hh => walk_at "heap"))
  | ((with_reducible refine' go_new ?hz ?_); (case hz => exact Nat.le_of_ble_eq_true rfl))
  | (with_reducible refine' ⟨_, rfl, ?_⟩)
  ))
--MACEND
/-- what a call with a receiver, a dial and a number from 0 on tells -/
structure Tell3 (CR CD CN : Addr) (dx dy dz : PyData) (H : Hp) (E : XK) (good : Prop) : Prop where
  r : ∀ f, fault dx = some f → ∀ H' dd, Ex H H' → H dd = none → H' dd = some (.xd [("index", fltV f)]) → E (.ref CR) (some dd) H'
  d : fault dx = none → isInt dy = false → ∀ H', Ex H H' → E (.ref CD) none H'
  n : fault dx = none → isInt dy = true → isNat dz = false → ∀ H', Ex H H' → E (.ref CN) none H'
  g : fault dx = none → isInt dy = true → isNat dz = true → good
/-- the same with a band ahead of the number -/
structure Tell4 (CR CD CB CN : Addr) (dx dy db dz : PyData) (H : Hp) (E : XK) (good : Prop) : Prop where
  r : ∀ f, fault dx = some f → ∀ H' dd, Ex H H' → H dd = none → H' dd = some (.xd [("index", fltV f)]) → E (.ref CR) (some dd) H'
  d : fault dx = none → isInt dy = false → ∀ H', Ex H H' → E (.ref CD) none H'
  b : fault dx = none → isInt dy = true → isBand db = false → ∀ H', Ex H H' → E (.ref CB) none H'
  n : fault dx = none → isInt dy = true → isBand db = true → isNat dz = false → ∀ H', Ex H H' → E (.ref CN) none H'
  g : fault dx = none → isInt dy = true → isBand db = true → isNat dz = true → good
def toneF (dial : Int) (ss : List Stg) : Option Int → Int → Option Int
  | none, x => mixF dial ss x
  | some r, x => sampled r (mixF dial ss x)
theorem go_call3 {sp : Sp} {E : L2.St → XK} {t : TA} {σ : L2.St} {H : Hp} {Q : VK} (h : t σ H fun vs H1 => sp vs H1 Q (E σ)) : tCallS sp E t σ H Q := h
theorem stage_stg {d : PyData} (h : isStage d = true) : ∃ s : Stg, d = s.d := by
  unfold isStage at h
  split at h
  · rename_i k d2 ds
    split at h
    · rename_i hk
      subst hk
      rw [Bool.and_eq_true] at h
      obtain ⟨i, rfl, _⟩ := nat_int h.2
      have : ds = [] := by simpa using h.1
      subst this
      exact ⟨.mix i, rfl⟩
    · split at h
      · rename_i hk
        subst hk
        rw [Bool.and_eq_true] at h
        have : ds = [] := by simpa using h.1
        subst this
        cases d2 <;> simp [isInt] at h
        exact ⟨.dial _, rfl⟩
      · rw [Bool.and_eq_true, decide_eq_true_eq] at h
        obtain ⟨rfl, h⟩ := h
        unfold isBand at h
        split at h
        · rename_i a b e
          cases e
          exact ⟨.pass a b, rfl⟩
        · cases h
  · cases h
theorem flt_stgs : ∀ {sd : List PyData} {i : Nat} {has : Bool}, fltS sd i has = none → ∃ ss : List Stg, sd = ss.map Stg.d
  | [], _, _, _ => ⟨[], rfl⟩
  | d :: sd, i, has, h => by
    have h' : (if isStage d = true then (if isDialD d = true then (if has = true then some i else fltS sd (i + 1) true) else fltS sd (i + 1) has) else some i) = none := h
    split at h'
    · rename_i hs
      obtain ⟨s, rfl⟩ := stage_stg hs
      have rest : ∃ has2, fltS sd (i + 1) has2 = none := by
        split at h'
        · split at h'
          · cases h'
          · exact ⟨_, h'⟩
        · exact ⟨_, h'⟩
      obtain ⟨_, h2⟩ := rest
      obtain ⟨ss, rfl⟩ := flt_stgs h2
      exact ⟨s :: ss, rfl⟩
    · cases h'
theorem fault_none {d : PyData} (h : fault d = none) : ∃ (ss : List Stg) (rate : Option Int), d = radD ss rate ∧ ss ≠ [] ∧ ss.length ≤ 8 ∧ ∀ r, rate = some r → 2 ≤ r := by
  cases hf : isFrame d with
  | false => rw [frame_no hf] at h; cases h
  | true =>
    obtain ⟨sd, r, rfl, hfl⟩ := frame_yes hf
    rw [hfl] at h
    cases hs : fltS sd 0 false with
    | some i => rw [hs] at h; cases h
    | none =>
      rw [hs] at h
      obtain ⟨ss, rfl⟩ := flt_stgs hs
      have hr : isRate r = true := by
        cases q : isRate r with
        | true => rfl
        | false => rw [q] at h; cases h
      have hl : 1 ≤ (ss.map Stg.d).length ∧ (ss.map Stg.d).length ≤ 8 := by
        simpa [isFrame] using hf
      rw [List.length_map] at hl
      have ne : ss ≠ [] := fun z => by rw [z] at hl; simp at hl
      cases r <;> simp [isRate] at hr
      · exact ⟨ss, none, rfl, ne, hl.2, fun _ z => nomatch z⟩
      · rename_i i
        exact ⟨ss, some i, rfl, ne, hl.2, fun r z => by cases z; exact hr⟩
theorem go_checkE {f : PyData → Bool} {C : Addr} {x : V} {d : PyData} {H : Hp} {Q : VK} {E : XK} (h : Dq H x d) (k1 : f d = true → ∀ H', Ex H H' → Q .non H') (k2 : f d = false → ∀ H', Ex H H' → E (.ref C) none H') : spCheckE f C ([x]) H Q E := ⟨x, d, rfl, h, k1, k2⟩
def spStagesF (CR CD CS : Addr) : Sp := fun vs H Q E => ∃ x y z dx dy dz, vs = [x, y, z] ∧ Dq H x dx ∧ Dq H y dy ∧ Dq H z dz ∧
  Tell3 CR CD CS dx dy dz H E (∀ ss rate dial n, dx = radD ss rate → dy = .int dial → dz = .int n → ss ≠ [] → ss.length ≤ 8 → (∀ r, rate = some r → 2 ≤ r) → ∀ p H', Ex H H' → H p = none → H' p = some (.lst ((allTones dial ss rate n).map optV)) → Q (.ref p) H')
def spToneF (CR CD CS : Addr) : Sp := fun vs H Q E => ∃ x y z dx dy dz, vs = [x, y, z] ∧ Dq H x dx ∧ Dq H y dy ∧ Dq H z dz ∧
  Tell3 CR CD CS dx dy dz H E (∀ ss rate dial n, dx = radD ss rate → dy = .int dial → dz = .int n → ss ≠ [] → ss.length ≤ 8 → (∀ r, rate = some r → 2 ≤ r) → ∀ H', Ex H H' → Q (optV (toneF dial ss rate n)) H')
theorem tones_last (dial : Int) : ∀ (ss : List Stg) (n : Option Int), ss ≠ [] → ∃ us, tones dial ss n = us ++ [lastT dial ss n]
  | [], _, h => absurd rfl h
  | [s], n, _ => ⟨[], rfl⟩
  | s :: t :: ss, n, _ => by
    obtain ⟨us, h⟩ := tones_last dial (t :: ss) (s.step dial n) (by simp)
    exact ⟨s.step dial n :: us, by rw [show tones dial (s :: t :: ss) n = s.step dial n :: tones dial (t :: ss) (s.step dial n) from rfl, h]; rfl⟩
theorem all_last {dial n : Int} {ss : List Stg} {rate : Option Int} (h : ss ≠ []) : ∃ us, (allTones dial ss rate n).map optV = us ++ [optV (toneF dial ss rate n)] := by
  unfold allTones
  cases rate with
  | none =>
    obtain ⟨us, e⟩ := tones_last dial ss (some n) h
    exact ⟨us.map optV, by rw [e]; simp [toneF, mixF]⟩
  | some r => exact ⟨(tones dial ss (some n)).map optV, by simp [toneF, mixF]⟩
section
variable {P : Program} {w : World} {K : PySem.W.Frag} {mg : Str → Option Value} {base : Heap} {CR CD CS : Addr}
end
end Kx

set_option Elab.async false
set_option linter.all false
set_option maxRecDepth 100000
set_option maxHeartbeats 4000000

namespace Kx
open PySem PySem.Spec PyProof.Rows L2 HX
open Evl (Ex)
local macro_rules | `(tactic| walk_at "side") => `(tactic| first | assumption | ((try dsimp only); first | assumption | decide +kernel | omega | exact ⟨by decide, by decide⟩ | (left; decide) | (left; omega) | (refine Or.inl ⟨?_, ?_⟩ <;> omega) | (refine Or.inr ⟨?_, ?_⟩ <;> omega)))
local macro_rules | `(tactic| walk_at "heap") => `(tactic| first | assumption | exact upd_same | exact Or.inl (by assumption) | exact Or.inl upd_same)
local macro_rules | `(tactic| walk_at "item") => `(tactic| first | exact rfl | exact atI_nat (j := 0) rfl | exact atI_nat (j := 1) rfl | exact atI_nat (j := 2) rfl | assumption)
local macro_rules | `(tactic| walk_at "rd") => `(tactic| repeat (first
  | ((with_reducible refine' go_var ?hv ?_); (case hv => exact rfl))
  | with_reducible refine' go_c ?_
  | with_reducible refine' go_op ?_
  | with_reducible refine' go_seq ?_
  | with_reducible refine' go_asg ?_
  | with_reducible refine' go_name ?_
  | with_reducible refine' go_cons ?_
  | with_reducible refine' go_nil ?_
  | with_reducible refine' go_cb ?_
  | with_reducible refine' go_call ?_
  | with_reducible refine' go_ifS ?_
  | with_reducible refine' go_test ?_
  | with_reducible refine' go_bl ?_
  | with_reducible refine' go_ret ?_
  | with_reducible refine' go_I0 ?_
  | ((with_reducible refine' go_I ?cc ?_); (case cc => walk_at "side"))
  | ((with_reducible refine' go_ixL ?hh ?hk ?_); (case hh => walk_at "heap"); (case hk => walk_at "item"))
  | ((with_reducible refine' go_ixT ?hh ?hk ?_); (case hh => walk_at "heap"); (case hk => walk_at "item"))
  | ((with_reducible refine' go_lenL ?hh ?_); (case hh => walk_at "heap"))
  | ((with_reducible refine' go_lenT ?hh ?_); (case hh => walk_at "heap"))
  | ((with_reducible refine' go_setL ?hh ?hk ?_); (case hh => walk_at "heap"); (case hk => walk_at "item"))
  | with_reducible refine' go_abs ?_
  | with_reducible refine' go_max ?_
  | with_reducible refine' go_min ?_
  | with_reducible refine' go_int ?_
  | with_reducible refine' go_intB ?_
  | (with_reducible refine' go_eq rfl ?_)
  | (with_reducible refine' go_ne rfl ?_)
  | with_reducible refine' go_isN ?_
  | with_reducible refine' go_notN ?_
  | with_reducible refine' go_if ?_
  | with_reducible refine' go_sub ?_
  | with_reducible refine' go_par ?_
  | with_reducible refine' go_sl ?_
  | with_reducible refine' go_part ?_
  | with_reducible refine' go_pint ?_
  | with_reducible refine' go_nopart ?_
  | ((with_reducible refine' go_lenL ?hh ?_); (case hh => walk_at "heap"))
  | ((with_reducible refine' go_lenT ?hh ?_); (case hh => walk_at "heap"))
  | ((with_reducible refine' go_lenS ?hh ?_); (case hh => assumption))
  | with_reducible refine' go_gcons ?_
  | with_reducible refine' go_gnil ?_
  | with_reducible refine' go_kw ?_
  | with_reducible refine' go_par2 ?_
  | with_reducible refine' go_next ?_
  | with_reducible refine' go_drop ?_
  | with_reducible refine' go_and ?_
  | with_reducible refine' go_or ?_
  | with_reducible refine' go_not ?_
  | with_reducible refine' go_B ?_
  | with_reducible refine' go_andV ?_
  | with_reducible refine' go_orV ?_
  | with_reducible refine' go_notV ?_
  | with_reducible refine' go_chain ?_
  | with_reducible refine' go_un ?_
  | with_reducible refine' go_U ?_
  | with_reducible refine' go_bm ?_
  | with_reducible refine' go_tup ?_
  | with_reducible refine' go_lst ?_
  | with_reducible refine' go_forR1 ?_
  | with_reducible refine' go_forR2 ?_
  | with_reducible refine' go_forL ?_
  | with_reducible refine' go_forT ?_
  | with_reducible refine' go_forE ?_
  | with_reducible refine' go_lcR1 ?_
  | with_reducible refine' go_lcL ?_
  | with_reducible refine' go_lcT ?_
  | ((with_reducible refine' go_tyL ?hh ?_); (case hh => walk_at "heap"))
  | ((with_reducible refine' go_new ?hz ?_); (case hz => exact Nat.le_of_ble_eq_true rfl))
  | (with_reducible refine' ⟨_, rfl, ?_⟩)
  ))
--MACEND
theorem flt_pass : ∀ {ss : List Stg} {i : Nat} {has : Bool}, fltS (ss.map Stg.d) i has = none → PassOk ss
  | [], _, _, _ => fun _ h => nomatch h
  | s :: ss, i, has, h => by
    have h' : (if isStage s.d = true then (if isDialD s.d = true then (if has = true then some i else fltS (ss.map Stg.d) (i + 1) true) else fltS (ss.map Stg.d) (i + 1) has) else some i) = none := h
    split at h'
    · rename_i hs
      have rest : ∃ has2, fltS (ss.map Stg.d) (i + 1) has2 = none := by
        split at h'
        · split at h'
          · cases h'
          · exact ⟨_, h'⟩
        · exact ⟨_, h'⟩
      obtain ⟨_, h2⟩ := rest
      intro t ht a b e
      rcases List.mem_cons.mp ht with rfl | ht
      · subst e
        have hs' := hs
        simp [isStage, Stg.d, isBand] at hs'
        exact hs'.2.2.2
      · exact flt_pass h2 t ht a b e
    · cases h'
theorem rateD_inj {a b : Option Int} (h : rateD a = rateD b) : a = b := by
  cases a <;> cases b <;> simp_all [rateD]
theorem radD_rate {ss ss' : List Stg} {a b : Option Int} (h : radD ss a = radD ss' b) : a = b := by
  unfold radD at h
  injection h with h
  injection h with _ h
  injection h with h _
  exact rateD_inj h
theorem rate_at {H : Hp} {v : V} {rate : Option Int} (h : Dq H v (rateD rate)) : v = optV rate := by
  cases rate with
  | none => cases h; rfl
  | some r => cases h; rfl
/-- what is known of a receiver without a fault -/
theorem rad_ok {ss : List Stg} {rate : Option Int} (h : fault (radD ss rate) = none) : ss ≠ [] ∧ ss.length ≤ 8 ∧ PassOk ss ∧ ∀ r, rate = some r → 2 ≤ r := by
  cases hf : isFrame (radD ss rate) with
  | false => rw [frame_no hf] at h; cases h
  | true =>
    obtain ⟨sd, r, e, hfl⟩ := frame_yes hf
    have e1 : sd = ss.map Stg.d := by
      unfold radD at e
      injection e with e
      injection e with e _
      injection e with e
      exact e.symm
    have e2 : r = rateD rate := by
      unfold radD at e
      injection e with e
      injection e with _ e
      injection e with e _
      exact e.symm
    subst e1
    subst e2
    rw [hfl] at h
    cases hs : fltS (ss.map Stg.d) 0 false with
    | some i => rw [hs] at h; cases h
    | none =>
      rw [hs] at h
      have hl : 1 ≤ (ss.map Stg.d).length ∧ (ss.map Stg.d).length ≤ 8 := by
        simpa [isFrame, radD] using hf
      rw [List.length_map] at hl
      refine ⟨fun z => by rw [z] at hl; simp at hl, hl.2, flt_pass hs, fun r hr => ?_⟩
      subst hr
      have : isRate (rateD (some r)) = true := by
        cases q : isRate (rateD (some r)) with
        | true => rfl
        | false => rw [q] at h; cases h
      simpa [isRate, rateD] using this
theorem band_of {d : PyData} (h : isBand d = true) : ∃ a b : Int, d = .tuple [.int a, .int b] ∧ 0 ≤ a ∧ a ≤ b := by
  unfold isBand at h
  split at h
  · rename_i a b
    rw [Bool.and_eq_true, Bool.and_eq_true, decide_eq_true_iff, decide_eq_true_iff, decide_eq_true_iff] at h
    exact ⟨a, b, rfl, h.1.1, h.2⟩
  · cases h
theorem dq_pair {H : Hp} {v : V} {a b : Int} (h : Dq H v (.tuple [.int a, .int b])) : PrR H v (a, b) := by
  cases h with
  | tup h k => cases k with
    | cons q1 q2 => cases q1; cases q2 with
      | cons q3 q4 => cases q3; cases q4; exact ⟨_, rfl, h⟩
/-- which signals have a tone in a band -/
def heardF (dial : Int) (ss : List Stg) (rate : Option Int) (b0 b1 : Int) (x : Int) : Bool := bandB b0 b1 (toneF dial ss rate x)
theorem on_heard {dial b0 b1 x : Int} {ss : List Stg} {rate : Option Int} : onB (inBand b0 b1 rate) (mixF dial ss x) = heardF dial ss rate b0 b1 x := by
  unfold heardF toneF
  cases rate with
  | none =>
    dsimp only
    cases mixF dial ss x <;> rfl
  | some r =>
    dsimp only
    cases mixF dial ss x <;> rfl
/-- the pieces that are heard in a band: in order, within bounds, and just the signals with a tone in the band -/
theorem bandPs_ok {dial b0 b1 : Int} {ss : List Stg} {rate : Option Int} {ps : List Pc} {B : Nat} (P : PassOk ss) (h8 : ss.length ≤ 8) (hn : ∀ s ∈ ss, s.near dial B) (hB : 390625 * B < 2 ^ 1990) (h0 : 0 ≤ b0) (h1 : b0 ≤ b1) (hb : b1.natAbs < 2 ^ 1990)
    (r2 : ∀ r, rate = some r → 2 ≤ r ∧ Sm r) (h : BandPs rate b0 b1 (parted (strAt dial ss)) ps) (hl : ∀ p ∈ ps, p.sp.length ≤ 4) : PsB ps ∧ ∀ x, 0 ≤ x → hasB ps x = heardF dial ss rate b0 b1 x := by
  have C : Par (mixF dial ss) (parted (strAt dial ss)) := par_of (cov_str P)
  have low : ∀ z : Int, z.natAbs ≤ 4 * 2 ^ 1990 → Sm z := fun z hz => Nat.lt_of_le_of_lt hz (by decide +kernel)
  have len : (parted (strAt dial ss)).length ≤ 256 := by
    rw [parted_len]
    exact Nat.le_trans (str_ok dial ss).2 (Nat.le_trans (Nat.pow_le_pow_right (by decide) h8) (by decide))
  have bd : ∀ s ∈ parted (strAt dial ss), s.lo.natAbs < 2 ^ 1990 ∧ s.num.natAbs < 2 ^ 1990 ∧ ∀ g, s.hi = some g → g.natAbs ≤ 2 ^ 1990 := fun s hs => by
    obtain ⟨t, ht, p⟩ := parted_mem hs
    have i := strAt_in hn h8 t ht
    refine ⟨by rw [p.lo]; exact Nat.lt_of_le_of_lt i.lo hB, by rw [p.num]; exact Nat.lt_of_le_of_lt i.num hB, fun g hg => ?_⟩
    rcases p.hi with e | ⟨g', e1, e2⟩
    · have := (i.hi g (by rw [← e, hg])).1
      generalize (2 : Nat) ^ 1990 = Z at *
      omega
    · rw [e2] at hg
      cases hg
      have := (i.hi g' e1).1
      generalize (2 : Nat) ^ 1990 = Z at *
      omega
  generalize parted (strAt dial ss) = L at *
  have fin : ∀ {r : Int} {g : Int → Bool} {f : Int → Option Int} {M : List Sx}, Par f M → M.length ≤ 256 → (∀ s ∈ M, s.lo.natAbs ≤ 4 * 2 ^ 1990 ∧ ∀ g, s.hi = some g → g.natAbs ≤ 4 * 2 ^ 1990) → Sm r → Pcs r g M ps → PsB ps ∧ ∀ x, 0 ≤ x → hasB ps x = onB g (f x) := fun {r g f M} D hM bM hr hp => by
    obtain ⟨o, m⟩ := pieces_ok D hp
    refine ⟨⟨o, fun p hpm => ?_, by rw [hp.len]; omega⟩, m⟩
    obtain ⟨s, hs, k⟩ := hp.get.1 p hpm
    obtain ⟨c1, c2⟩ := bM s hs
    exact ⟨o.ok p hpm, Nat.le_trans (hl p hpm) (by decide), by rw [k.lo]; exact low _ c1, fun g hg => low _ (c2 g (by rw [← k.hi, hg])), by rw [k.per]; exact hr⟩
  cases rate with
  | some r =>
    obtain ⟨o, m⟩ := fin C len (fun s hs => by
      obtain ⟨c1, _, c3⟩ := bd s hs
      exact ⟨by generalize (2 : Nat) ^ 1990 = Z at *; omega, fun g hg => by have := c3 g hg; generalize (2 : Nat) ^ 1990 = Z at *; omega⟩) (r2 r rfl).2 h
    exact ⟨o, fun x x0 => by rw [m x x0, on_heard]⟩
  | none =>
    obtain ⟨o, m⟩ := fin (par_cut (low := b0) (high := b1) C h1) (Nat.le_trans (List.length_filterMap_le _ _) len) (fun p hp => by
      obtain ⟨s, hs, e⟩ := List.mem_filterMap.mp hp
      obtain ⟨_, ⟨e', q1, q2⟩, q3, q4⟩ := (cutN_any (C.w s hs) h1).1 p e
      obtain ⟨c1, c2, c3⟩ := bd s hs
      have l0 := C.lo s hs
      have i1 := (q3 p.lo).mp ⟨Int.le_refl _, fun g z => (by rw [q1] at z; cases z; exact q2)⟩
      have i2 := (q3 e').mp ⟨q2, fun g z => (by rw [q1] at z; cases z; exact Int.le_refl _)⟩
      have l1 := i1.1.1
      have v2 := i2.2
      unfold valS at v2
      have eb : e'.natAbs ≤ 4 * 2 ^ 1990 := by
        generalize (2 : Nat) ^ 1990 = Z at *
        rcases C.w s hs with w | w <;> rw [w] at v2 <;> omega
      refine ⟨by omega, fun g hg => ?_⟩
      rw [q1] at hg
      cases hg
      exact eb) sm_one h
    exact ⟨o, fun x x0 => by rw [m x x0, cut_on, on_heard]⟩
/-- numbers that are no giants -/
def Low4 (dx dy db dz : PyData) : Prop := ∀ ss rate dial b0 b1 n, dx = radD ss rate → dy = .int dial → db = .tuple [.int b0, .int b1] → dz = .int n → (∃ B, (∀ s ∈ ss, s.near dial B) ∧ 390625 * B < 2 ^ 1990) ∧ (∀ r, rate = some r → Sm r) ∧ b1.natAbs < 2 ^ 1990 ∧ n.natAbs < 2 ^ 1990
def spPlace (CR CD CB : Addr) : Sp := fun vs H Q E => ∃ x y b dx dy db, vs = [x, y, b] ∧ Dq H x dx ∧ Dq H y dy ∧ Dq H b db ∧
  (∀ f, fault dx = some f → ∀ H' dd, Ex H H' → H dd = none → H' dd = some (.xd [("index", fltV f)]) → E (.ref CR) (some dd) H') ∧
  (fault dx = none → isInt dy = false → ∀ H', Ex H H' → E (.ref CD) none H') ∧
  (fault dx = none → isInt dy = true → isBand db = false → ∀ H', Ex H H' → E (.ref CB) none H') ∧
  (fault dx = none → isInt dy = true → isBand db = true → ∀ H', Ex H H' → Q .non H')
def spHI : Sp := fun vs H Q _ => ∃ x b ss rate dial b0 b1 B, vs = [x, .int dial, b] ∧ Dq H x (radD ss rate) ∧ PrR H b (b0, b1) ∧ PassOk ss ∧ ss.length ≤ 8 ∧ (∀ s ∈ ss, s.near dial B) ∧ 390625 * B < 2 ^ 1990 ∧ 0 ≤ b0 ∧ b0 ≤ b1 ∧ b1.natAbs < 2 ^ 1990 ∧ (∀ r, rate = some r → 2 ≤ r ∧ Sm r) ∧
  ∀ q H' ps, Ex H H' → Lpc H' q ps → PsB ps → (∀ x, 0 ≤ x → hasB ps x = heardF dial ss rate b0 b1 x) → Q (.ref q) H'
/-- a function of a receiver, a dial, a band and a number: what it tells is what `R` allows of the signals with a tone in the band -/
def spFour (R : (Int → Bool) → Int → V → Prop) (CR CD CB CN : Addr) : Sp := fun vs H Q E => ∃ x y b z dx dy db dz, vs = [x, y, b, z] ∧ Dq H x dx ∧ Dq H y dy ∧ Dq H b db ∧ Dq H z dz ∧ Low4 dx dy db dz ∧
  Tell4 CR CD CB CN dx dy db dz H E (∀ ss rate dial b0 b1 n, dx = radD ss rate → dy = .int dial → db = .tuple [.int b0, .int b1] → dz = .int n → PassOk ss → ss ≠ [] → ss.length ≤ 8 → (∀ r, rate = some r → 2 ≤ r) → 0 ≤ b0 → b0 ≤ b1 → 0 ≤ n →
    ∀ v H', Ex H H' → R (heardF dial ss rate b0 b1) n v → Q v H')
def RNext (P : Int → Bool) (n : Int) (v : V) : Prop := ∃ o, v = optV o ∧ IsNext P n o
def RLast (P : Int → Bool) (n : Int) (v : V) : Prop := ∃ o, v = optV o ∧ IsLast P n o
def RNth (P : Int → Bool) (n : Int) (v : V) : Prop := ∃ o, v = optV o ∧ IsNth P n o
def RCount (P : Int → Bool) (n : Int) (v : V) : Prop := v = .int (cnt P (n + 1).toNat)
theorem next_congr {P R : Int → Bool} {a : Int} {o : Option Int} (h : ∀ x, 0 ≤ x → P x = R x) (a0 : 0 ≤ a) (k : IsNext P a o) : IsNext R a o := by
  cases o with
  | none => exact fun y hy => by rw [← h y (by omega)]; exact k y hy
  | some x =>
    obtain ⟨k1, k2, k3⟩ := k
    exact ⟨k1, by rw [← h x (by omega)]; exact k2, fun y h1 h2 => by rw [← h y (by omega)]; exact k3 y h1 h2⟩
theorem last_congr {P R : Int → Bool} {a : Int} {o : Option Int} (h : ∀ x, 0 ≤ x → P x = R x) (k : IsLast P a o) : IsLast R a o := by
  cases o with
  | none => exact fun y h0 hy => by rw [← h y h0]; exact k y h0 hy
  | some x =>
    obtain ⟨k0, k1, k2, k3⟩ := k
    exact ⟨k0, k1, by rw [← h x k0]; exact k2, fun y h1 h2 => by rw [← h y (by omega)]; exact k3 y h1 h2⟩
theorem nth_congr {P R : Int → Bool} {a : Int} {o : Option Int} (h : ∀ x, 0 ≤ x → P x = R x) (k : IsNth P a o) : IsNth R a o := by
  cases o with
  | none => exact fun n => by rw [← cnt_congr h]; exact k n
  | some x =>
    obtain ⟨k0, k1, k2⟩ := k
    exact ⟨k0, by rw [← h x k0]; exact k1, by rw [← cnt_congr h]; exact k2⟩
section
variable {P : Program} {w : World} {K : PySem.W.Frag} {mg : Str → Option Value} {base : Heap} {CR CD CB CN : Addr}
abbrev s_check_band : Stmt := top 26
theorem sc_check_band : FnScope ["band"] ["band"] (defScope s_check_band) := ⟨rfl, rfl, rfl, by decide +kernel, rfl, by decide +kernel, by decide +kernel⟩
theorem ok_check_bandE {C f : Addr} {fd : FuncData} (F : Fun K "check_band" "check_band" s_check_band f fd) (T_InvalidBand : Err K mg "InvalidBand" C) (h_is_band : Has P w K mg base 3 "is_band" (spLook isBand)) :
    FnOk P w K mg base (L2N.CX P w) 4 f fd ["band"] (spCheckE isBand C) := by
  refine okXN F sc_check_band (fun vs H Q E h => ?_) (fun cdv A outer s H vs Q E hr h => ?_)
  · obtain ⟨x, d, rfl, _⟩ := h
    rfl
  · obtain ⟨x, d, rfl, hd, k1, k2⟩ := h
    refine ⟨_, (pss_one (ps_if (pt_not (pt_val (pe_hs h_is_band hr rfl (pa_cons (pv 0) pa_nil))))
  (pss_one (L2N.ps_raise rfl (L2N.takes_of rfl rfl rfl rfl) (L2N.pmk_own PySem.F.excBase_ValueError T_InvalidBand.x T_InvalidBand.g T_InvalidBand.k (raises_own T_InvalidBand.b T_InvalidBand.t) rfl)))
  pss_nil)), ?_⟩
    walk_at "rd"
    refine look_go hd fun H1 e1 => ?_
    walk_at "rd"
    cases q : isBand d with
    | true =>
      refine iteF ?_
      walk_at "rd"
      exact k1 q _ e1
    | false =>
      refine iteT ?_
      exact k2 q _ e1
end
end Kx

set_option Elab.async false
set_option linter.all false
set_option maxRecDepth 100000
set_option maxHeartbeats 4000000

namespace Kx
open PySem PySem.Spec PyProof.Rows L2 HX
open Evl (Ex)
local macro_rules | `(tactic| walk_at "side") => `(tactic| first | assumption | ((try dsimp only); first | assumption | decide +kernel | omega | exact ⟨by decide, by decide⟩ | (left; decide) | (left; omega) | (refine Or.inl ⟨?_, ?_⟩ <;> omega) | (refine Or.inr ⟨?_, ?_⟩ <;> omega)))
local macro_rules | `(tactic| walk_at "heap") => `(tactic| first | assumption | exact upd_same | exact Or.inl (by assumption) | exact Or.inl upd_same)
local macro_rules | `(tactic| walk_at "item") => `(tactic| first | exact rfl | exact atI_nat (j := 0) rfl | exact atI_nat (j := 1) rfl | exact atI_nat (j := 2) rfl | assumption)
local macro_rules | `(tactic| walk_at "rd") => `(tactic| repeat (first
  | ((with_reducible refine' go_var ?hv ?_); (case hv => exact rfl))
  | with_reducible refine' go_c ?_
  | with_reducible refine' go_op ?_
  | with_reducible refine' go_seq ?_
  | with_reducible refine' go_asg ?_
  | with_reducible refine' go_name ?_
  | with_reducible refine' go_cons ?_
  | with_reducible refine' go_nil ?_
  | with_reducible refine' go_cb ?_
  | with_reducible refine' go_call ?_
  | with_reducible refine' go_ifS ?_
  | with_reducible refine' go_test ?_
  | with_reducible refine' go_bl ?_
  | with_reducible refine' go_ret ?_
  | with_reducible refine' go_I0 ?_
  | ((with_reducible refine' go_I ?cc ?_); (case cc => walk_at "side"))
  | ((with_reducible refine' go_ixL ?hh ?hk ?_); (case hh => walk_at "heap"); (case hk => walk_at "item"))
  | ((with_reducible refine' go_ixT ?hh ?hk ?_); (case hh => walk_at "heap"); (case hk => walk_at "item"))
  | ((with_reducible refine' go_lenL ?hh ?_); (case hh => walk_at "heap"))
  | ((with_reducible refine' go_lenT ?hh ?_); (case hh => walk_at "heap"))
  | ((with_reducible refine' go_setL ?hh ?hk ?_); (case hh => walk_at "heap"); (case hk => walk_at "item"))
  | with_reducible refine' go_abs ?_
  | with_reducible refine' go_max ?_
  | with_reducible refine' go_min ?_
  | with_reducible refine' go_int ?_
  | with_reducible refine' go_intB ?_
  | (with_reducible refine' go_eq rfl ?_)
  | (with_reducible refine' go_ne rfl ?_)
  | with_reducible refine' go_isN ?_
  | with_reducible refine' go_notN ?_
  | with_reducible refine' go_if ?_
  | with_reducible refine' go_sub ?_
  | with_reducible refine' go_par ?_
  | with_reducible refine' go_sl ?_
  | with_reducible refine' go_part ?_
  | with_reducible refine' go_pint ?_
  | with_reducible refine' go_nopart ?_
  | ((with_reducible refine' go_lenL ?hh ?_); (case hh => walk_at "heap"))
  | ((with_reducible refine' go_lenT ?hh ?_); (case hh => walk_at "heap"))
  | ((with_reducible refine' go_lenS ?hh ?_); (case hh => assumption))
  | with_reducible refine' go_gcons ?_
  | with_reducible refine' go_gnil ?_
  | with_reducible refine' go_kw ?_
  | with_reducible refine' go_par2 ?_
  | with_reducible refine' go_next ?_
  | with_reducible refine' go_drop ?_
  | with_reducible refine' go_and ?_
  | with_reducible refine' go_or ?_
  | with_reducible refine' go_not ?_
  | with_reducible refine' go_B ?_
  | with_reducible refine' go_andV ?_
  | with_reducible refine' go_orV ?_
  | with_reducible refine' go_notV ?_
  | with_reducible refine' go_chain ?_
  | with_reducible refine' go_un ?_
  | with_reducible refine' go_U ?_
  | with_reducible refine' go_bm ?_
  | with_reducible refine' go_tup ?_
  | with_reducible refine' go_lst ?_
  | with_reducible refine' go_forR1 ?_
  | with_reducible refine' go_forR2 ?_
  | with_reducible refine' go_forL ?_
  | with_reducible refine' go_forT ?_
  | with_reducible refine' go_forE ?_
  | with_reducible refine' go_lcR1 ?_
  | with_reducible refine' go_lcL ?_
  | with_reducible refine' go_lcT ?_
  | ((with_reducible refine' go_tyL ?hh ?_); (case hh => walk_at "heap"))
  | ((with_reducible refine' go_new ?hz ?_); (case hz => exact Nat.le_of_ble_eq_true rfl))
  | (with_reducible refine' ⟨_, rfl, ?_⟩)
  ))
--MACEND
section
variable {P : Program} {w : World} {K : PySem.W.Frag} {mg : Str → Option Value} {base : Heap} {CR CD CB CN : Addr}
end
end Kx

set_option Elab.async false
set_option linter.all false
set_option maxRecDepth 100000
set_option maxHeartbeats 2000000
namespace Kx
open PySem PySem.Spec PyProof.Rows L2 HX
open Evl (Ex)
/-! ### a def that may raise, called by keywords -/
def HasKX (P : Program) (w : World) (K : PySem.W.Frag) (mg : Str → Option Value) (base : Heap) (k : Nat) (x : Str) (ks : List Str) (g : List Value → List Value) (gV : List V → List V) (sp : Sp) : Prop :=
  ∃ (f : Addr) (fd : FuncData) (ps : List Str), FnOk P w K mg base (L2N.CX P w) k f fd ps sp ∧ mg x = some (.ref f) ∧ PySem.W.keepIn K (.ref f) = true ∧ KBn K fd ps 0 ks (fun _ ws => g ws) (fun _ zs => gV zs)
theorem passN0 {X : Cx} : Passes (L2N.CX X.prog X.w) X E0 := fun pins σ H s e s' I c => takes0N e s' (L2N.XE.of_call I (fun _ _ _ h => h) c)
section
variable {X : Cx} {k n : Nat} {sp : Sp} {x : Str} {p pos : Pos} {kws : List Keyword} {tk : TA} {ks : List Str} {g : List Value → List Value} {gV : List V → List V}
theorem pe_kwX (h : HasKX X.prog X.w X.K X.mg X.base k x ks g gV sp) (hr : Room n X.A) (hg : Gl X x) (hkw : PK X kws tk) (hkn : k ≤ n := by decide)
    (hall : (backToKw pos (keywordEach kws X.env)).all (·.1.isSome) = true := by rfl) (hks : (backToKw pos (keywordEach kws X.env)).filterMap (·.1) = ks := by rfl) (hdb : (x == ("__debug__" : Str)) = false := by decide)
    (hpl : ((backTo pos (starEach [] X.env)).any (·.1) || (backToKw pos (keywordEach kws X.env)).any (·.1.isNone)) = false := by rfl) :
    PE X (.Call (.Name x p) [] kws pos) (tKw ks.length sp gV tk) := by
  obtain ⟨f, fd, ps, F, hm, hk, hb⟩ := h
  refine ⟨fun pins s σ H Q I h => ?_⟩
  refine wpAny_Call_Name_kw (ld_glob I hg hm ?_ hdb)
  refine PySem.W.callWith_KW0 (h₀ := X.base) I.ok.mod.kin hk hall ?_ hpl
  refine thn (hkw.run pos pins s σ H _ I h) fun ws s2 ⟨zs, H2, I2, rz, l2, q2⟩ => ⟨I2.kIn, ?_⟩
  rw [hks]
  exact run_fnN (us := []) (vs := []) (n := 0) F (hr.mono hkn) hb passN0 I2 .nil rz rfl l2 q2
variable {e : Expr} {es : List Expr} {t : TA}
/-- by position; it raises nothing here -/
theorem pe_hs0X (h : HasX X.prog X.w X.K X.mg X.base k x sp) (hr : Room n X.A) (hg : Gl X x) (ha : PA X (e :: es) t) (hkn : k ≤ n := by decide) (hdb : (x == ("__debug__" : Str)) = false := by decide)
    (he : starEach (e :: es) X.env = (false, eval e X.env) :: starEach es X.env := by rfl) (hpl : (backTo pos (starEach es X.env)).any (·.1) = false := by rfl) :
    PE X (.Call (.Name x p) (e :: es) [] pos) (tCall sp [] E0 t) := by
  obtain ⟨f, fd, ps, F, hm, hk, hb⟩ := h
  exact pe_call F (hr.mono hkn) hg hm hk hb .nil passN0 ha hdb he hpl
end
end Kx

set_option Elab.async false
set_option linter.all false
set_option maxRecDepth 100000
set_option maxHeartbeats 4000000
namespace Kx
open PySem PySem.Spec PyProof.Rows L2 HX
open Evl (Ex)
/-! ### the program's functions, called with what is right -/
theorem stgd_inj {s t : Stg} (h : s.d = t.d) : s = t := by
  have n1 : ¬ (("mix" : String) : Str) = ("dial" : String) := by decide +kernel
  have n2 : ¬ (("dial" : String) : Str) = ("mix" : String) := by decide +kernel
  cases s <;> cases t <;> simp_all [Stg.d]
theorem stgs_inj : ∀ {ss ts : List Stg}, ss.map Stg.d = ts.map Stg.d → ss = ts
  | [], [], _ => rfl
  | [], _ :: _, h => by cases h
  | _ :: _, [], h => by cases h
  | s :: ss, t :: ts, h => by
    rw [List.map_cons, List.map_cons] at h
    injection h with h1 h2
    rw [stgd_inj h1, stgs_inj h2]
theorem rad_inj {ss ss' : List Stg} {a b : Option Int} (h : radD ss a = radD ss' b) : ss = ss' ∧ a = b := by
  refine ⟨?_, radD_rate h⟩
  unfold radD at h
  injection h with h
  injection h with h _
  injection h with h
  exact stgs_inj h
theorem dial_d (s : Stg) : isDialD s.d = s.isDial := by cases s <;> rfl
theorem flt_right {b : Int} : ∀ (ss : List Stg) (i : Nat) (has : Bool), (∀ s ∈ ss, s.ok b) → dials ss + (if has then 1 else 0) ≤ 1 → fltS (ss.map Stg.d) i has = none
  | [], _, _, _, _ => rfl
  | s :: ss, i, has, ok, one => by
    have rest := fun x hx => ok x (List.mem_cons_of_mem _ hx)
    have h1 : isStage s.d = true := stg_stage (ok s List.mem_cons_self)
    show (if isStage s.d = true then (if isDialD s.d = true then (if has = true then some i else fltS (ss.map Stg.d) (i + 1) true) else fltS (ss.map Stg.d) (i + 1) has) else some i) = none
    have hd : dials (s :: ss) = (if s.isDial then 1 else 0) + dials ss := by
      unfold dials
      rw [List.filter_cons]
      cases s.isDial <;> simp [Nat.add_comm]
    rw [hd] at one
    rw [h1, if_pos rfl, dial_d]
    cases q : s.isDial with
    | true =>
      rw [q] at one
      cases has with
      | true => simp at one
      | false =>
        exact flt_right ss (i + 1) true rest (by simp at one ⊢; omega)
    | false =>
      rw [q] at one
      exact flt_right ss (i + 1) has rest (by simpa using one)
theorem fault_right {b : Int} {ss : List Stg} {rate : Option Int} (R : Rad b ss rate) : fault (radD ss rate) = none := by
  have hf : isFrame (radD ss rate) = true := by
    have h1 : 1 ≤ ss.length := List.length_pos_iff.mpr R.ne
    simp [radD, isFrame, h1, R.le]
  obtain ⟨sd, r, e, hfl⟩ := frame_yes hf
  obtain ⟨rfl, rfl⟩ : ss.map Stg.d = sd ∧ rateD rate = r := by simpa [radD] using e
  rw [hfl, flt_right ss 0 false R.ok (by simpa using R.one)]
  have hr : isRate (rateD rate) = true := by
    cases rate with
    | none => rfl
    | some r => simp [rateD, isRate, R.rate r rfl]
  rw [hr]
  rfl

/-- a receiver and a dial, without a fault, no giants -/
structure Vd (dial : Int) (ss : List Stg) (rate : Option Int) : Prop where
  flt : fault (radD ss rate) = none
  near : ∀ s ∈ ss, s.near dial (2 ^ 300)
  sm : ∀ r, rate = some r → r.natAbs < 2 ^ 300
namespace Vd
variable {dial : Int} {ss : List Stg} {rate : Option Int}
theorem of {b : Int} (R : Rad b ss rate) (hb : b < 2 ^ 290) (hd : dial.natAbs < 2 ^ 290) : Vd dial ss rate := by
  have e1 : (2 : Int) ^ 290 = 1989292945639146568621528992587283360401824603189390869761855907572637988050133502132224 := by decide +kernel
  have e2 : (2 : Nat) ^ 290 = 1989292945639146568621528992587283360401824603189390869761855907572637988050133502132224 := by decide +kernel
  have e3 : (2 : Nat) ^ 300 = 2037035976334486086268445688409378161051468393665936250636140449354381299763336706183397376 := by decide +kernel
  refine ⟨fault_right R, fun s hs => ?_, fun r hr => ?_⟩
  · have o := R.ok s hs
    cases s with
    | mix lo =>
      obtain ⟨o1, o2⟩ := o
      show lo.natAbs ≤ _
      omega
    | dial a =>
      obtain ⟨o1, o2⟩ := o
      show (dial + a).natAbs ≤ _
      omega
    | pass a b =>
      obtain ⟨o1, o2, o3⟩ := o
      show a.natAbs ≤ _ ∧ b.natAbs ≤ _
      constructor <;> omega
  · have := R.rate r hr
    omega
theorem r2 (C : Vd dial ss rate) : ∀ r, rate = some r → 2 ≤ r := (rad_ok C.flt).2.2.2
theorem le (C : Vd dial ss rate) : ss.length ≤ 8 := (rad_ok C.flt).2.1
theorem ne (C : Vd dial ss rate) : ss ≠ [] := (rad_ok C.flt).1
theorem pass (C : Vd dial ss rate) : PassOk ss := (rad_ok C.flt).2.2.1
theorem sms (C : Vd dial ss rate) : ∀ r, rate = some r → Sm r := fun r hr => Nat.lt_of_lt_of_le (C.sm r hr) (Nat.pow_le_pow_right (by decide) (by decide))
theorem low4 (C : Vd dial ss rate) {b0 b1 n : Int} (hb : b1.natAbs < 2 ^ 1990) (hn : n.natAbs < 2 ^ 1990) : Low4 (radD ss rate) (.int dial) (.tuple [.int b0, .int b1]) (.int n) := fun ss' rate' dial' b0' b1' n' e1 e2 e3 e4 => by
  obtain ⟨rfl, rfl⟩ := rad_inj e1
  cases e2
  cases e3
  cases e4
  exact ⟨⟨2 ^ 300, C.near, by decide +kernel⟩, C.sms, hb, hn⟩
end Vd
theorem tell3 {CR CD CN : Addr} {dx dy dz : PyData} {H : Hp} {E : XK} {good : Prop} (h : fault dx = none) (h1 : isInt dy = true) (h2 : isNat dz = true) (g : good) : Tell3 CR CD CN dx dy dz H E good :=
  ⟨fun f e => (by rw [h] at e; cases e), fun _ z => (by rw [h1] at z; cases z), fun _ _ z => (by rw [h2] at z; cases z), fun _ _ _ => g⟩
theorem tell4 {CR CD CB CN : Addr} {dx dy db dz : PyData} {H : Hp} {E : XK} {good : Prop} (h : fault dx = none) (h1 : isInt dy = true) (h2 : isBand db = true) (h3 : isNat dz = true) (g : good) : Tell4 CR CD CB CN dx dy db dz H E good :=
  ⟨fun f e => (by rw [h] at e; cases e), fun _ z => (by rw [h1] at z; cases z), fun _ _ z => (by rw [h2] at z; cases z), fun _ _ _ z => (by rw [h3] at z; cases z), fun _ _ _ _ => g⟩
theorem band_right {b0 b1 : Int} (h0 : 0 ≤ b0) (h1 : b0 ≤ b1) : isBand (.tuple [.int b0, .int b1]) = true := by
  show (decide (0 ≤ b0) && decide (0 ≤ b1) && decide (b0 ≤ b1)) = true
  rw [decide_eq_true h0, decide_eq_true h1, decide_eq_true (show 0 ≤ b1 by omega)]
  rfl
theorem dq_band {H : Hp} {v : V} {b0 b1 : Int} (h : PrR H v (b0, b1)) : Dq H v (.tuple [.int b0, .int b1]) := by
  obtain ⟨a, rfl, h⟩ := h
  exact .tup h (.cons (.int _) (.cons (.int _) .nil))
section
variable {CR CD CB CN : Addr} {H : Hp} {Q : VK} {E : XK} {x b : V} {ss : List Stg} {rate : Option Int} {dial n b0 b1 : Int}
/-- a call of one of the four functions of what is heard -/
theorem go_four {R : (Int → Bool) → Int → V → Prop} (hx : Dq H x (radD ss rate)) (C : Vd dial ss rate) (hb : PrR H b (b0, b1)) (h0 : 0 ≤ b0) (h1 : b0 ≤ b1) (bb : b1.natAbs < 2 ^ 1990) (n0 : 0 ≤ n) (nb : n.natAbs < 2 ^ 1990)
    (k : ∀ v H', Ex H H' → R (heardF dial ss rate b0 b1) n v → Q v H') : spFour R CR CD CB CN [x, .int dial, b, .int n] H Q E := by
  refine ⟨x, .int dial, b, .int n, radD ss rate, .int dial, .tuple [.int b0, .int b1], .int n, rfl, hx, .int _, dq_band hb, .int _, C.low4 bb nb, tell4 C.flt rfl (band_right h0 h1) (decide_eq_true n0) ?_⟩
  intro ss' rate' dial' b0' b1' n' e1 e2 e3 e4 _ _ _ _ _ _ _ v H' e r
  obtain ⟨rfl, rfl⟩ := rad_inj e1
  cases e2
  cases e3
  cases e4
  exact k v H' e r
theorem go_tone (hx : Dq H x (radD ss rate)) (C : Vd dial ss rate) (n0 : 0 ≤ n) (k : ∀ H', Ex H H' → Q (optV (toneF dial ss rate n)) H') : spToneF CR CD CN [x, .int dial, .int n] H Q E := by
  refine ⟨x, .int dial, .int n, radD ss rate, .int dial, .int n, rfl, hx, .int _, .int _, tell3 C.flt rfl (decide_eq_true n0) ?_⟩
  intro ss' rate' dial' n' e1 e2 e3 _ _ _ H' e
  obtain ⟨rfl, rfl⟩ := rad_inj e1
  cases e2
  cases e3
  exact k H' e
end
end Kx

set_option Elab.async false
set_option linter.all false
set_option maxRecDepth 100000
set_option maxHeartbeats 4000000
namespace Kx
open PySem PySem.Spec PyProof.Rows L2 HX
/-! ### far out: nothing but the sampler changes -/
/-- from here on no stretch begins or ends -/
def farM : Int := 390625 * 2 ^ 300 + 1
theorem open_at {dial x v : Int} {ss : List Stg} {rate : Option Int} (C : Vd dial ss rate) (h : farM ≤ x) (hv : mixF dial ss x = some v) : ∃ s : Sx, s.lo ≤ 390625 * 2 ^ 300 ∧ s.num.natAbs ≤ 390625 * 2 ^ 300 ∧ 0 ≤ s.lo ∧ ∀ y, s.lo ≤ y → mixF dial ss y = some (s.num + (y - s.lo)) := by
  have K := cov_str C.pass (dial := dial)
  have x0 : 0 ≤ x := Int.le_trans (by decide +kernel) h
  obtain ⟨s, hs, i⟩ := K.all x x0 v hv
  have b := strAt_in C.near C.le s hs
  have up : s.hi = none := by
    cases hh : s.hi with
    | none => rfl
    | some g =>
      exfalso
      have h1 := i.2 g hh
      have h2 := (b.hi g hh).1
      have h3 : farM = 390625 * 2 ^ 300 + 1 := rfl
      have h4 : ((390625 * 2 ^ 300 : Nat) : Int) = 390625 * 2 ^ 300 := by decide +kernel
      omega
  have lo := b.lo
  have h4 : ((390625 * 2 ^ 300 : Nat) : Int) = 390625 * 2 ^ 300 := by decide +kernel
  refine ⟨s, by omega, b.num, K.lo s hs, fun y hy => ?_⟩
  have := K.val s hs y ⟨hy, fun g e => by rw [up] at e; cases e⟩
  show lastT dial ss (some y) = _
  rw [this]
  unfold valS
  rw [K.up s hs up]
  congr 1
  omega
theorem samp_shift {r n : Int} : sampI r (n + r) = sampI r n := by
  unfold sampI
  rw [Int.add_emod_right]
theorem heard_shift {dial r y b0 b1 : Int} {ss : List Stg} (C : Vd dial ss (some r)) (h : farM ≤ y) : heardF dial ss (some r) b0 b1 (y + r) = heardF dial ss (some r) b0 b1 y := by
  have r0 := C.r2 r rfl
  rw [← on_heard, ← on_heard]
  cases hy : mixF dial ss y with
  | some v =>
    obtain ⟨s, h1, _, h2, h3⟩ := open_at C h hy
    have hlo : s.lo ≤ y := Int.le_trans h1 (Int.le_trans (by decide +kernel) h)
    rw [h3 y hlo] at hy
    cases hy
    rw [h3 (y + r) (by omega)]
    show bandB b0 b1 (some (sampI r _)) = bandB b0 b1 (some (sampI r _))
    rw [show s.num + (y + r - s.lo) = s.num + (y - s.lo) + r by omega, samp_shift]
  | none =>
    cases hz : mixF dial ss (y + r) with
    | none => rfl
    | some v =>
      exfalso
      obtain ⟨s, h1, _, h2, h3⟩ := open_at C (show farM ≤ y + r by omega) hz
      have hlo : s.lo ≤ y := Int.le_trans h1 (Int.le_trans (by decide +kernel) h)
      rw [h3 y hlo] at hy
      cases hy
theorem heard_end {dial y b0 b1 : Int} {ss : List Stg} (C : Vd dial ss none) (h : farM ≤ y) (hp : heardF dial ss none b0 b1 y = true) : y ≤ b1 + 2 * (390625 * 2 ^ 300) := by
  rw [← on_heard] at hp
  cases hy : mixF dial ss y with
  | none => rw [hy] at hp; cases hp
  | some v =>
    rw [hy] at hp
    obtain ⟨s, h1, h1', h2, h3⟩ := open_at C h hy
    have hlo : s.lo ≤ y := Int.le_trans h1 (Int.le_trans (by decide +kernel) h)
    rw [h3 y hlo] at hy
    cases hy
    have := (bandB_some.mp (show bandB b0 b1 (some (s.num + (y - s.lo))) = true from hp)).2
    have h4 : ((390625 * 2 ^ 300 : Nat) : Int) = 390625 * 2 ^ 300 := by decide +kernel
    omega
theorem heard_nth_bd {dial b0 b1 i x : Int} {ss : List Stg} {rate : Option Int} (C : Vd dial ss rate) (i1 : i < 2 ^ 400) (hb : b1 < 2 ^ 400) (h : IsNth (heardF dial ss rate b0 b1) i (some x)) : 0 ≤ x ∧ x < 2 ^ 800 := by
  obtain ⟨x0, hx, e⟩ := h
  refine ⟨x0, Classical.byContradiction fun z => ?_⟩
  have z : (2 : Int) ^ 800 ≤ x := by omega
  cases rate with
  | none =>
    have far : farM ≤ x := Int.le_trans (by decide +kernel) z
    have h1 := heard_end C far hx
    have h2 : (2 : Int) ^ 400 + 2 * (390625 * 2 ^ 300) < 2 ^ 800 := by decide +kernel
    omega
  | some r =>
    have r0 := C.r2 r rfl
    have r1 := C.sm r rfl
    have i0 : 0 ≤ i := by rw [← e]; exact cnt_nn _ _
    have key : ∀ (k : Nat) (y : Int), farM + k * r ≤ y → heardF dial ss (some r) b0 b1 y = true → (k : Int) ≤ cnt (heardF dial ss (some r) b0 b1) y.toNat := by
      intro k
      induction k with
      | zero => intro y _ _; exact cnt_nn _ _
      | succ k ih =>
        intro y hy hp
        have e1 : farM + k * r ≤ y - r := by
          rw [show ((k + 1 : Nat) : Int) = (k : Int) + 1 by omega, Int.add_mul] at hy
          omega
        have k0 : 0 ≤ (k : Int) * r := Int.mul_nonneg (by omega) (by omega)
        have m0 : 0 ≤ farM := by decide +kernel
        have p1 : heardF dial ss (some r) b0 b1 (y - r) = true := by
          rw [← heard_shift C (show farM ≤ y - r by omega), show y - r + r = y by omega]
          exact hp
        have := ih (y - r) e1 p1
        have := cnt_lt (P := heardF dial ss (some r) b0 b1) (m := (y - r).toNat) (n := y.toNat) (by omega) (by rw [show (((y - r).toNat : Nat) : Int) = y - r by omega]; exact p1)
        omega
    have bd : farM + ((i + 1).toNat : Int) * r ≤ x := by
      refine Int.le_trans ?_ z
      have h1 : ((i + 1).toNat : Int) * r ≤ 2 ^ 400 * 2 ^ 300 := by
        have h2 : ((i + 1).toNat : Int) ≤ 2 ^ 400 := by omega
        have h3 : r ≤ 2 ^ 300 := by
          have h5 : ((2 ^ 300 : Nat) : Int) = 2 ^ 300 := by decide +kernel
          omega
        exact Int.mul_le_mul h2 h3 (by omega) (by decide +kernel)
      have h2 : farM + 2 ^ 400 * 2 ^ 300 ≤ (2 : Int) ^ 800 := by decide +kernel
      omega
    have := key _ x bd hx
    omega
theorem lt1990 {x : Int} (h0 : 0 ≤ x) (h : x ≤ 2 ^ 800) : x.natAbs < 2 ^ 1990 := by
  have h1 : ((2 ^ 800 : Nat) : Int) = 2 ^ 800 := by decide +kernel
  exact Nat.lt_of_le_of_lt (show x.natAbs ≤ 2 ^ 800 by omega) (by decide +kernel)
end Kx

set_option Elab.async false
set_option linter.all false
set_option maxRecDepth 100000
set_option maxHeartbeats 4000000
namespace Kx
open PySem PySem.Spec PyProof.Rows L2 HX
/-! ### counts of two bands side by side; counts and indexes -/
theorem cnt_or {P R S : Int → Bool} (h : ∀ x, S x = (P x || R x)) (d : ∀ x, P x = true → R x = true → False) : ∀ n, cnt S n = cnt P n + cnt R n
  | 0 => rfl
  | n + 1 => by
    rw [cnt_succ, cnt_succ, cnt_succ, cnt_or h d n, h]
    cases hp : P n <;> cases hr : R n
    · show _ + 0 = _ + 0 + (_ + 0); omega
    · show _ + 1 = _ + 0 + (_ + 1); omega
    · show _ + 1 = _ + 1 + (_ + 0); omega
    · exact absurd hr fun z => d _ hp z
theorem heard_two {dial b0 b1 c : Int} {ss : List Stg} {rate : Option Int} (h0 : b0 ≤ c) (h1 : c < b1) (n : Nat) :
    cnt (heardF dial ss rate b0 b1) n = cnt (heardF dial ss rate b0 c) n + cnt (heardF dial ss rate (c + 1) b1) n := by
  refine cnt_or (fun x => ?_) (fun x p q => ?_) n
  · show bandB _ _ _ = (bandB _ _ _ || bandB _ _ _)
    cases toneF dial ss rate x with
    | none => rfl
    | some m =>
      rw [Bool.eq_iff_iff, Bool.or_eq_true, bandB_some, bandB_some, bandB_some]
      omega
  · have p : bandB b0 c (toneF dial ss rate x) = true := p
    have q : bandB (c + 1) b1 (toneF dial ss rate x) = true := q
    cases ht : toneF dial ss rate x with
    | none => rw [ht] at p; cases p
    | some m =>
      rw [ht] at p q
      have := bandB_some.mp p
      have := bandB_some.mp q
      omega
theorem nth_cnt {P : Int → Bool} {i x : Int} (h : IsNth P i (some x)) : 0 ≤ x ∧ P x = true ∧ cnt P x.toNat = i ∧ cnt P (x + 1).toNat = i + 1 := by
  obtain ⟨h1, h2, h3⟩ := h
  refine ⟨h1, h2, h3, ?_⟩
  rw [show (x + 1).toNat = x.toNat + 1 by omega, cnt_succ, show ((x.toNat : Nat) : Int) = x by omega, h2, h3]
  rfl
/-- no number has this index, which is counted: none is left -/
theorem nth_none_next {P : Int → Bool} {i far : Int} {o : Option Int} (f0 : 0 ≤ far) (h : IsNth P i none) (hi : i ≤ cnt P (far + 1).toNat) (k : IsNext P (far + 1) o) : cnt P (far + 1).toNat = i ∧ o = none := by
  have e : cnt P (far + 1).toNat = i := by
    have := h (far + 1).toNat
    omega
  refine ⟨e, next_uniq k ?_⟩
  refine nth_next (by omega) ?_
  rw [e]
  exact h
theorem next_nth {P : Int → Bool} {i x : Int} {o u : Option Int} (h : IsNth P i (some x)) (k : IsNext P (x + 1) o) (l : IsNth P (i + 1) u) : o = u := by
  obtain ⟨h1, h2, h3, h4⟩ := nth_cnt h
  refine next_uniq k (nth_next (by omega) ?_)
  rw [h4]
  exact l
theorem last_nth {P : Int → Bool} {i x : Int} {o u : Option Int} (h : IsNth P i (some x)) (x0 : 0 < x) (i0 : 0 < i) (k : IsLast P (x - 1) o) (l : IsNth P (i - 1) u) : o = u := by
  obtain ⟨h1, h2, h3, h4⟩ := nth_cnt h
  have e : cnt P (x - 1 + 1).toNat = i := by rw [show x - 1 + 1 = x by omega]; exact h3
  refine last_uniq k (nth_last (by omega) (by omega) ?_)
  rw [e]
  exact l
theorem last_none {P : Int → Bool} {x : Int} {o : Option Int} (h : IsNth P 0 (some x)) (x0 : 0 < x) (k : IsLast P (x - 1) o) : o = none := by
  obtain ⟨h1, h2, h3, h4⟩ := nth_cnt h
  refine last_uniq k ?_
  intro y y0 y1
  exact cnt_flat (m := 0) (n := x.toNat) (by omega) h3 (by omega) (by omega)
end Kx

set_option Elab.async false
set_option linter.all false
set_option maxRecDepth 100000
set_option maxHeartbeats 4000000
namespace Kx
open PySem PySem.Spec PyProof.Rows L2 HX
theorem lastT_none (dial : Int) : ∀ ss : List Stg, lastT dial ss none = none
  | [] => rfl
  | s :: ss => by
    show lastT dial ss (s.step dial none) = none
    rw [show s.step dial none = none from by cases s <;> rfl, lastT_none dial ss]
theorem lastT_take {dial : Int} {ss : List Stg} {i : Nat} {n : Option Int} (h : lastT dial (ss.take i) n = none) : lastT dial ss n = none := by
  have key : ∀ (ss : List Stg) (i : Nat) (n : Option Int), lastT dial (ss.take i) n = none → lastT dial ss n = none := by
    intro ss
    induction ss with
    | nil => intro i n h; simpa using h
    | cons s ss ih =>
      intro i n h
      cases i with
      | zero =>
        rw [List.take_zero] at h
        have h : n = none := h
        rw [h, lastT_none]
      | succ i => exact ih i _ h
  exact key ss i n h
theorem toneF_none {dial n : Int} {ss : List Stg} {rate : Option Int} (h : mixF dial ss n = none) : toneF dial ss rate n = none := by
  cases rate with
  | none => exact h
  | some r => show sampled r (mixF dial ss n) = none; rw [h]; rfl
/-! ### a line: one signal at the dials from one on -/
def NoD (ss : List Stg) : Prop := ∀ s ∈ ss, s.isDial = false
theorem lastT_nod {d d' : Int} : ∀ {ss : List Stg}, NoD ss → ∀ n, lastT d ss n = lastT d' ss n
  | [], _, _ => rfl
  | s :: ss, h, n => by
    have hs := h s List.mem_cons_self
    have e : s.step d n = s.step d' n := by
      cases s with
      | mix lo => cases n <;> rfl
      | dial a => cases hs
      | pass a b => cases n <;> rfl
    show lastT d ss (s.step d n) = lastT d' ss (s.step d' n)
    rw [e]
    exact lastT_nod (fun t ht => h t (List.mem_cons_of_mem _ ht)) _
theorem lastT_app (d : Int) : ∀ (p q : List Stg) (n : Option Int), lastT d (p ++ q) n = lastT d q (lastT d p n)
  | [], _, _ => rfl
  | s :: p, q, n => lastT_app d p q (s.step d n)
/-- the stages ahead of the dial stage, its number, the stages behind it -/
def splitD : List Stg → Option (List Stg × Int × List Stg)
  | [] => none
  | .dial a :: ss => some ([], a, ss)
  | s :: ss => match splitD ss with
    | none => none
    | some (p, a, q) => some (s :: p, a, q)
theorem splitD_some : ∀ {ss p q : List Stg} {a : Int}, splitD ss = some (p, a, q) → ss = p ++ .dial a :: q ∧ NoD p
  | [], _, _, _, h => by cases h
  | .dial b :: ss, p, q, a, h => by
    cases h
    exact ⟨rfl, fun _ h => nomatch h⟩
  | .mix b :: ss, p, q, a, h => by
    have h : (match splitD ss with | none => none | some (p, a, q) => some (Stg.mix b :: p, a, q)) = some (p, a, q) := h
    cases hs : splitD ss with
    | none => rw [hs] at h; cases h
    | some t =>
      obtain ⟨p', a', q'⟩ := t
      rw [hs] at h
      cases h
      obtain ⟨h1, h2⟩ := splitD_some hs
      refine ⟨by rw [h1]; rfl, fun s hs => ?_⟩
      rcases List.mem_cons.mp hs with rfl | hs
      · rfl
      · exact h2 s hs
  | .pass b c :: ss, p, q, a, h => by
    have h : (match splitD ss with | none => none | some (p, a, q) => some (Stg.pass b c :: p, a, q)) = some (p, a, q) := h
    cases hs : splitD ss with
    | none => rw [hs] at h; cases h
    | some t =>
      obtain ⟨p', a', q'⟩ := t
      rw [hs] at h
      cases h
      obtain ⟨h1, h2⟩ := splitD_some hs
      refine ⟨by rw [h1]; rfl, fun s hs => ?_⟩
      rcases List.mem_cons.mp hs with rfl | hs
      · rfl
      · exact h2 s hs
theorem splitD_none : ∀ {ss : List Stg}, splitD ss = none → NoD ss
  | [], _ => fun _ h => nomatch h
  | .dial b :: ss, h => by cases h
  | .mix b :: ss, h => by
    have h : (match splitD ss with | none => none | some (p, a, q) => some (Stg.mix b :: p, a, q)) = none := h
    cases hs : splitD ss with
    | none =>
      intro s hm
      rcases List.mem_cons.mp hm with rfl | hm
      · rfl
      · exact splitD_none hs s hm
    | some t =>
      rw [hs] at h
      cases h
  | .pass b c :: ss, h => by
    have h : (match splitD ss with | none => none | some (p, a, q) => some (Stg.pass b c :: p, a, q)) = none := h
    cases hs : splitD ss with
    | none =>
      intro s hm
      rcases List.mem_cons.mp hm with rfl | hm
      · rfl
      · exact splitD_none hs s hm
    | some t =>
      rw [hs] at h
      cases h
theorem isDialD_d (s : Stg) : isDialD s.d = s.isDial := by cases s <;> rfl
theorem flt_one : ∀ {ss : List Stg} {i : Nat} {has : Bool}, fltS (ss.map Stg.d) i has = none → dials ss + (if has then 1 else 0) ≤ 1
  | [], _, has, _ => by cases has <;> decide
  | s :: ss, i, has, h => by
    have h' : (if isStage s.d = true then (if isDialD s.d = true then (if has = true then some i else fltS (ss.map Stg.d) (i + 1) true) else fltS (ss.map Stg.d) (i + 1) has) else some i) = none := h
    have hd : dials (s :: ss) = (if s.isDial then 1 else 0) + dials ss := by
      unfold dials
      rw [List.filter_cons]
      cases s.isDial <;> simp [Nat.add_comm]
    rw [hd]
    split at h'
    · rw [isDialD_d] at h'
      cases q : s.isDial with
      | true =>
        rw [q, if_pos rfl] at h'
        cases has with
        | true => cases h'
        | false =>
          have := flt_one h'
          simp at this ⊢
          omega
      | false =>
        rw [q] at h'
        have := flt_one h'
        simp at this ⊢
        omega
    · cases h'
theorem dials_zero {ss : List Stg} (h : dials ss = 0) : NoD ss := fun s hs => by
  cases q : s.isDial with
  | false => rfl
  | true =>
    have : s ∈ ss.filter Stg.isDial := List.mem_filter.mpr ⟨hs, q⟩
    unfold dials at h
    rw [List.length_eq_zero_iff.mp h] at this
    cases this
theorem split_nod {ss p q : List Stg} {a : Int} {rate : Option Int} (hf : fault (radD ss rate) = none) (h : splitD ss = some (p, a, q)) : NoD q := by
  obtain ⟨e, _⟩ := splitD_some h
  have one : dials ss ≤ 1 := by
    cases hfr : isFrame (radD ss rate) with
    | false => rw [frame_no hfr] at hf; cases hf
    | true =>
      obtain ⟨sd, r, e', hfl⟩ := frame_yes hfr
      have e1 : sd = ss.map Stg.d := by
        unfold radD at e'
        injection e' with e'
        injection e' with e' _
        injection e' with e'
        exact e'.symm
      subst e1
      rw [hfl] at hf
      cases hs : fltS (ss.map Stg.d) 0 false with
      | some i => rw [hs] at hf; cases hf
      | none =>
        have := flt_one hs
        simpa using this
  have hd : dials ss = dials p + (1 + dials q) := by
    rw [e]
    unfold dials
    rw [List.filter_append, List.length_append, List.filter_cons]
    simp [Stg.isDial]
    omega
  exact dials_zero (by omega)
/-- behind the dial stage a step counts like a signal -/
theorem line_eq {p q : List Stg} {a sig dial way m x : Int} (hp : NoD p) (hq : NoD q) (hw : way = 1 ∨ way = -1) (hm : lastT 0 p (some sig) = some m) :
    mixF 0 (.dial (way * ((m - a) - dial)) :: q) x = mixF (dial + way * x) (p ++ .dial a :: q) sig := by
  unfold mixF
  rw [lastT_app, lastT_nod hp (d' := 0), hm]
  show lastT 0 q ((Stg.dial (way * ((m - a) - dial))).step 0 (some x)) = lastT (dial + way * x) q ((Stg.dial a).step (dial + way * x) (some m))
  have e : (Stg.dial (way * ((m - a) - dial))).step 0 (some x) = (Stg.dial a).step (dial + way * x) (some m) := by
    show some (if x - (0 + way * ((m - a) - dial)) < 0 then _ else _) = some (if m - (dial + way * x + a) < 0 then _ else _)
    congr 1
    rcases hw with w | w <;> rw [w] <;> split <;> split <;> omega
  rw [e]
  exact lastT_nod hq _
theorem line_none {p q : List Stg} {a sig d : Int} (hp : NoD p) (hm : lastT 0 p (some sig) = none) : mixF d (p ++ .dial a :: q) sig = none := by
  unfold mixF
  rw [lastT_app, lastT_nod hp (d' := 0), hm, lastT_none]
/-- which dials take the signal into a band -/
def dialF (ss : List Stg) (rate : Option Int) (sig b0 b1 : Int) (d : Int) : Bool := heardF d ss rate b0 b1 sig
theorem heard_of_mix {d d' b0 b1 x y : Int} {ss ss' : List Stg} {rate : Option Int} (h : mixF d ss x = mixF d' ss' y) : heardF d ss rate b0 b1 x = heardF d' ss' rate b0 b1 y := by
  rw [← on_heard, ← on_heard, h]
def IsPrev (P : Int → Bool) (a : Int) (o : Option Int) : Prop := match o with
  | some x => x ≤ a ∧ P x = true ∧ ∀ y, x < y → y ≤ a → P y = false
  | none => ∀ y, y ≤ a → P y = false
theorem prev_uniq {P : Int → Bool} {a : Int} {o u : Option Int} (h : IsPrev P a o) (k : IsPrev P a u) : o = u := by
  have two : ∀ x y : Int, IsPrev P a (some x) → IsPrev P a (some y) → ¬ x < y := fun x y ⟨xa, hx, ex⟩ ⟨ya, hy, ey⟩ lt => by
    rw [ex y lt ya] at hy
    cases hy
  have one : ∀ x : Int, IsPrev P a (some x) → ¬ IsPrev P a none := fun x ⟨xa, hx, ex⟩ n => by
    rw [n x xa] at hx
    cases hx
  cases o with
  | none => cases u with
    | none => rfl
    | some y => exact absurd h (one y k)
  | some x => cases u with
    | none => exact absurd k (one x h)
    | some y =>
      have := two x y h k
      have := two y x k h
      congr 1
      omega
/-- from steps to dials -/
theorem step_next {P R : Int → Bool} {dial : Int} {o : Option Int} (h : ∀ x, 0 ≤ x → R x = P (dial + 1 * x)) (k : IsNext R 0 o) : IsNext P dial (o.map fun x => dial + x) := by
  cases o with
  | none =>
    intro y hy
    have := k (y - dial) (by omega)
    rwa [h _ (by omega), show dial + 1 * (y - dial) = y by omega] at this
  | some x =>
    obtain ⟨k1, k2, k3⟩ := k
    rw [h x k1, Int.one_mul] at k2
    refine ⟨by show dial ≤ dial + x; omega, k2, fun y h1 h2 => ?_⟩
    have h2 : y < dial + x := h2
    have := k3 (y - dial) (by omega) (by omega)
    rwa [h _ (by omega), show dial + 1 * (y - dial) = y by omega] at this
theorem step_prev {P R : Int → Bool} {dial : Int} {o : Option Int} (h : ∀ x, 0 ≤ x → R x = P (dial + -1 * x)) (k : IsNext R 0 o) : IsPrev P dial (o.map fun x => dial - x) := by
  cases o with
  | none =>
    intro y hy
    have := k (dial - y) (by omega)
    rwa [h _ (by omega), show dial + -1 * (dial - y) = y by omega] at this
  | some x =>
    obtain ⟨k1, k2, k3⟩ := k
    rw [h x k1, show dial + -1 * x = dial - x by omega] at k2
    refine ⟨by show dial - x ≤ dial; omega, k2, fun y h1 h2 => ?_⟩
    have h1 : dial - x < y := h1
    have := k3 (dial - y) (by omega) (by omega)
    rwa [h _ (by omega), show dial + -1 * (dial - y) = y by omega] at this
end Kx

set_option Elab.async false
set_option linter.all false
set_option maxRecDepth 100000
set_option maxHeartbeats 4000000
namespace Kx
open PySem PySem.Spec PyProof.Rows L2 HX
open Evl (Ex)
inductive Tps (H : Hp) : List V → List (List V) → Prop
  | nil : Tps H [] []
  | cons {a : Addr} {t : List V} {xs : List V} {ts : List (List V)} : H a = some (.tup t) → Tps H xs ts → Tps H (.ref a :: xs) (t :: ts)
theorem Tps.ex {H H' : Hp} (e : Ex H H') : ∀ {xs ts}, Tps H xs ts → Tps H' xs ts
  | _, _, .nil => .nil
  | _, _, .cons h t => .cons (e _ _ h) (t.ex e)
theorem Tps.mut {H : Hp} {l : Addr} {ys : List V} {o : HO} (hl : H l = some (.lst ys)) : ∀ {xs ts}, Tps H xs ts → Tps (upd H l o) xs ts
  | _, _, .nil => .nil
  | _, _, .cons h t => .cons (by rw [upd_ne fun z => by rw [z, hl] at h; cases h]; exact h) (t.mut hl)
theorem Tps.snoc {H : Hp} {a : Addr} {t : List V} (h : H a = some (.tup t)) : ∀ {xs ts}, Tps H xs ts → Tps H (xs ++ [.ref a]) (ts ++ [t])
  | _, _, .nil => .cons h .nil
  | _, _, .cons g r => .cons g (r.snoc h)
theorem Tps.len {H : Hp} : ∀ {xs ts}, Tps H xs ts → xs.length = ts.length
  | _, _, .nil => rfl
  | _, _, .cons _ t => by simp [t.len]
theorem Tps.get {H : Hp} : ∀ {xs ts} {i : Nat} {v : V}, Tps H xs ts → xs[i]? = some v → ∃ a t, ts[i]? = some t ∧ v = .ref a ∧ H a = some (.tup t)
  | _, _, _, _, .nil, e => by simp at e
  | _, _, 0, _, .cons h t, e => by simp at e; exact ⟨_, _, rfl, e.symm, h⟩
  | _, _, i + 1, v, .cons h t, e => by
    obtain ⟨a, t', h1, h2, h3⟩ := Tps.get (i := i) (v := v) t (by simpa using e)
    exact ⟨a, t', by simpa using h1, h2, h3⟩
theorem Jx.mut {S : List Addr} {H G : Hp} {l : Addr} {o : HO} (x : Jx S H G) (hl : H l = none) : Jx S H (upd G l o) := fun b u e => by
  obtain ⟨h1, h2⟩ := hid_some e
  have := x b u e
  have hb : b ≠ l := fun z => by rw [z, hl] at h2; cases h2
  rw [hid_ne h1, upd_ne hb]
  exact (hid_some this).2
theorem Tps.jx {S : List Addr} {H G : Hp} (x : Jx S H G) (hS : ∀ s ∈ S, ∃ c, H s = some (.lst c)) : ∀ {xs ts}, Tps H xs ts → Tps G xs ts
  | _, _, .nil => .nil
  | _, _, .cons h t => .cons (x.get h fun z => by obtain ⟨c, hc⟩ := hS _ z; rw [h] at hc; cases hc) (t.jx x hS)
/-- a new list of tuples that grows while a tank is drawn from -/
structure Grw (j : Addr) (H : Hp) (l : Addr) (vs : List V) (ts : List (List V)) (G : Hp) : Prop where
  X : Jx [j] H G
  new : H l = none
  lj : l ≠ j
  at_ : G l = some (.lst vs)
  T : Tps G vs ts
theorem JarAt.lst {n : Nat} {H : Hp} {j : Addr} (J : JarAt n H j) : ∀ s ∈ [j], ∃ c, H s = some (.lst c) := fun s hs => by
  obtain rfl : s = j := by simpa using hs
  obtain ⟨a, b, c, h, _⟩ := J
  exact ⟨_, h⟩
section
variable {j l p q : Addr} {H G G' : Hp} {vs : List V} {ts : List (List V)} {n : Nat} {o : HO}
theorem Grw.pick (g : Grw j H l vs ts G) (J : JarAt n G j) (y : Jx [j] G G') : Grw j H l vs ts G' :=
  ⟨g.X.tr y, g.new, g.lj, y.get g.at_ (nin1 g.lj), g.T.jx y J.lst⟩
theorem Grw.lay (g : Grw j H l vs ts G) (hp : G p = none) : Grw j H l vs ts (upd G p o) :=
  ⟨g.X.tr (Jx.new hp), g.new, g.lj, by rw [upd_ne (fresh_ne g.at_ hp).symm]; exact g.at_, g.T.ex (Ex.new hp)⟩
theorem Grw.app (g : Grw j H l vs ts G) {t : List V} (hq : G q = some (.tup t)) : Grw j H l (vs ++ [.ref q]) (ts ++ [t]) (upd G l (.lst (vs ++ [.ref q]))) :=
  ⟨Jx.mut g.X g.new, g.new, g.lj, upd_same, (g.T.snoc hq).mut g.at_⟩
theorem Grw.cat (g : Grw j H l vs ts G) (J : JarAt n G j) {t : List V} (hq : G q = some (.tup t)) (hp : G p = none) : Grw j H p (vs ++ [.ref q]) (ts ++ [t]) (upd G p (.lst (vs ++ [.ref q]))) :=
  ⟨g.X.tr (Jx.new hp), J.fresh g.X hp, fresh_ne J.obj.choose_spec hp, upd_same, (g.T.snoc hq).ex (Ex.new hp)⟩
end
theorem JarAt.lay {n : Nat} {H : Hp} {j p : Addr} {o : HO} (J : JarAt n H j) (hp : H p = none) : JarAt n (upd H p o) j := J.keep (upd_ne (fresh_ne J.obj.choose_spec hp).symm)
theorem go_parB {P : V → V → Prop} {x y : V} (h : P x y) : ∃ v w, [x, y] = [v, w] ∧ P v w := ⟨x, y, rfl, h⟩
/-- the numbers of a drawn stage -/
def Stg.fine (t : Int) : Stg → Prop
  | .mix lo => 0 ≤ lo ∧ lo ≤ t
  | .dial a => -t ≤ a ∧ a ≤ t
  | .pass lo hi => 0 ≤ lo ∧ lo ≤ hi ∧ hi ≤ 10 * t
theorem Stg.fine.ok' {t b : Int} {s : Stg} (h : s.fine t) (t0 : 0 ≤ t) (hb : 10 * t ≤ b) : s.ok b := by
  cases s with
  | mix lo => exact ⟨h.1, by have := h.2; omega⟩
  | dial a => exact ⟨by have := h.1; omega, by have := h.2; omega⟩
  | pass lo hi => exact ⟨h.1, h.2.1, by have := h.2.2; omega⟩
theorem tps_dq {S : List Addr} {H : Hp} (hS : ∀ s ∈ S, ∃ c, H s = some (.lst c)) : ∀ {xs : List V} {ss : List Stg}, Tps H xs (ss.map Stg.vals) → DqAll (hid S H) xs (ss.map Stg.d)
  | _, [], .nil => .nil
  | _, s :: ss, .cons h t => .cons (dq_stg h fun z => by obtain ⟨c, hc⟩ := hS _ z; rw [h] at hc; cases hc) (tps_dq hS t)
end Kx

set_option Elab.async false
set_option linter.all false
set_option maxRecDepth 100000
set_option maxHeartbeats 4000000
namespace Kx
open PySem PySem.Spec PyProof.Rows L2 HX
/-! ### how large tones are, and what comes again far out -/
theorem dials_consG (s : Stg) (ss : List Stg) : dials (s :: ss) = (if s.isDial then 1 else 0) + dials ss := by
  unfold dials
  rw [List.filter_cons]
  cases s.isDial <;> simp [Nat.add_comm]
theorem dials_mixG (lo : Int) (ss : List Stg) : dials (.mix lo :: ss) = dials ss := by rw [dials_consG]; exact Nat.zero_add _
theorem dials_dialG (a : Int) (ss : List Stg) : dials (.dial a :: ss) = 1 + dials ss := by rw [dials_consG]; rfl
theorem dials_passG (a b : Int) (ss : List Stg) : dials (.pass a b :: ss) = dials ss := by rw [dials_consG]; exact Nat.zero_add _
theorem tone_maxG {d D E top : Int} (d0 : -E ≤ d) (d1 : d ≤ D) (t0 : 0 ≤ top) (e0 : 0 ≤ E) : ∀ (ss : List Stg) (n m A : Int), (∀ s ∈ ss, s.fine top) → top ≤ A → D ≤ A + E → 0 ≤ n → n ≤ A → lastT d ss (some n) = some m → 0 ≤ m ∧ m ≤ A + (E + top) * dials ss
  | [], n, m, A, _, _, _, n0, h, e => by
    have e : some n = some m := e
    cases e
    show 0 ≤ n ∧ n ≤ A + (E + top) * ((0 : Nat) : Int)
    rw [Int.natCast_zero, Int.mul_zero]
    omega
  | s :: ss, n, m, A, f, hA, hD, n0, h, e => by
    have f1 := f s List.mem_cons_self
    have fr := fun x hx => f x (List.mem_cons_of_mem _ hx)
    have e : lastT d ss (s.step d (some n)) = some m := e
    cases s with
    | mix lo =>
      obtain ⟨a, b⟩ := f1
      rw [dials_mixG]
      exact tone_maxG d0 d1 t0 e0 ss _ m A fr hA hD (by split <;> omega) (by split <;> omega) e
    | dial a =>
      obtain ⟨a1, b⟩ := f1
      have := tone_maxG d0 d1 t0 e0 ss _ m (A + (E + top)) fr (by omega) (by omega) (by split <;> omega) (by split <;> omega) e
      rw [dials_dialG, Int.natCast_add, Int.mul_add]
      have e1 : (E + top) * ((1 : Nat) : Int) = E + top := Int.mul_one _
      omega
    | pass lo hi =>
      rw [dials_passG]
      by_cases c : lo ≤ n ∧ n ≤ hi
      · rw [show (Stg.pass lo hi).step d (some n) = some n from if_pos c] at e
        exact tone_maxG d0 d1 t0 e0 ss n m A fr hA hD n0 h e
      · rw [show (Stg.pass lo hi).step d (some n) = none from if_neg c, lastT_none] at e
        cases e
/-- far signals: none, or all moved by one number -/
theorem farG {d D top : Int} (d1 : d ≤ D) (t0 : 0 ≤ top) (D0 : 0 ≤ D) : ∀ ss : List Stg, (∀ s ∈ ss, s.fine top) → (∀ n : Int, 10 * top + 1 + (D + top) * (dials ss : Int) + top * (ss.length : Int) ≤ n → lastT d ss (some n) = none) ∨
    ∃ S : Int, S ≤ (D + top) * (dials ss : Int) + top * (ss.length : Int) ∧ ∀ n : Int, 10 * top + 1 + (D + top) * (dials ss : Int) + top * (ss.length : Int) ≤ n → lastT d ss (some n) = some (n - S)
  | [], _ => .inr ⟨0, by simp [dials], fun n _ => by show some n = some (n - 0); rw [Int.sub_zero]⟩
  | s :: ss, f => by
    have f1 := f s List.mem_cons_self
    have ih := farG d1 t0 D0 ss fun x hx => f x (List.mem_cons_of_mem _ hx)
    rw [List.length_cons]
    have st : ∀ n, lastT d (s :: ss) (some n) = lastT d ss (s.step d (some n)) := fun n => rfl
    have p1 : 0 ≤ (D + top) * (dials ss : Int) := Int.mul_nonneg (by omega) (by omega)
    have p2 : 0 ≤ top * (ss.length : Int) := Int.mul_nonneg t0 (by omega)
    have e2 : top * ((ss.length + 1 : Nat) : Int) = top * (ss.length : Int) + top := by rw [Int.natCast_add, Int.mul_add]; congr 1; exact Int.mul_one _
    rw [e2]
    generalize top * (ss.length : Int) = Y at *
    cases s with
    | mix lo =>
      obtain ⟨a, b⟩ := f1
      rw [dials_mixG]
      generalize (D + top) * (dials ss : Int) = X at *
      have e : ∀ n : Int, top ≤ n → (Stg.mix lo).step d (some n) = some (n - lo) := fun n h => by show some (if n - lo < 0 then -(n - lo) else n - lo) = _; rw [if_neg (by omega)]
      rcases ih with ih | ⟨S, hS, ih⟩
      · exact .inl fun n h => by rw [st, e n (by omega)]; exact ih _ (by omega)
      · exact .inr ⟨lo + S, by omega, fun n h => by rw [st, e n (by omega), ih _ (by omega)]; congr 1; omega⟩
    | dial a =>
      obtain ⟨a1, b⟩ := f1
      rw [dials_dialG]
      have e1 : (D + top) * ((1 + dials ss : Nat) : Int) = D + top + (D + top) * (dials ss : Int) := by rw [Int.natCast_add, Int.mul_add]; congr 1; exact Int.mul_one _
      rw [e1]
      generalize (D + top) * (dials ss : Int) = X at *
      have e : ∀ n : Int, D + top ≤ n → (Stg.dial a).step d (some n) = some (n - (d + a)) := fun n h => by show some (if n - (d + a) < 0 then -(n - (d + a)) else n - (d + a)) = _; rw [if_neg (by omega)]
      rcases ih with ih | ⟨S, hS, ih⟩
      · exact .inl fun n h => by rw [st, e n (by omega)]; exact ih _ (by omega)
      · exact .inr ⟨d + a + S, by omega, fun n h => by rw [st, e n (by omega), ih _ (by omega)]; congr 1; omega⟩
    | pass lo hi =>
      obtain ⟨a1, b1, c1⟩ := f1
      refine .inl fun n h => ?_
      rw [dials_passG] at h
      rw [st, show (Stg.pass lo hi).step d (some n) = none from if_neg (by omega), lastT_none]
end Kx

set_option Elab.async false
set_option linter.all false
set_option maxRecDepth 100000
set_option maxHeartbeats 4000000

namespace Kx
open PySem PySem.Spec PyProof.Rows L2 HX
open Evl (Ex)
local macro_rules | `(tactic| walk_at "side") => `(tactic| first | assumption | ((try dsimp only); first | assumption | decide +kernel | omega | exact ⟨by decide, by decide⟩ | (left; decide) | (left; omega) | (refine Or.inl ⟨?_, ?_⟩ <;> omega) | (refine Or.inr ⟨?_, ?_⟩ <;> omega)))
local macro_rules | `(tactic| walk_at "heap") => `(tactic| first | assumption | exact upd_same | exact Or.inl (by assumption) | exact Or.inl upd_same)
local macro_rules | `(tactic| walk_at "item") => `(tactic| first | exact rfl | exact atI_nat (j := 0) rfl | exact atI_nat (j := 1) rfl | exact atI_nat (j := 2) rfl | assumption)
local macro_rules | `(tactic| walk_at "rd") => `(tactic| repeat (first
  | ((with_reducible refine' go_var ?hv ?_); (case hv => exact rfl))
  | with_reducible refine' go_c ?_
  | with_reducible refine' go_op ?_
  | with_reducible refine' go_seq ?_
  | with_reducible refine' go_asg ?_
  | with_reducible refine' go_name ?_
  | with_reducible refine' go_cons ?_
  | with_reducible refine' go_nil ?_
  | with_reducible refine' go_cb ?_
  | with_reducible refine' go_call ?_
  | with_reducible refine' go_ifS ?_
  | with_reducible refine' go_test ?_
  | with_reducible refine' go_bl ?_
  | with_reducible refine' go_ret ?_
  | with_reducible refine' go_I0 ?_
  | ((with_reducible refine' go_I ?cc ?_); (case cc => walk_at "side"))
  | ((with_reducible refine' go_ixL ?hh ?hk ?_); (case hh => walk_at "heap"); (case hk => walk_at "item"))
  | ((with_reducible refine' go_ixT ?hh ?hk ?_); (case hh => walk_at "heap"); (case hk => walk_at "item"))
  | ((with_reducible refine' go_lenL ?hh ?_); (case hh => walk_at "heap"))
  | ((with_reducible refine' go_lenT ?hh ?_); (case hh => walk_at "heap"))
  | ((with_reducible refine' go_setL ?hh ?hk ?_); (case hh => walk_at "heap"); (case hk => walk_at "item"))
  | with_reducible refine' go_abs ?_
  | with_reducible refine' go_max ?_
  | with_reducible refine' go_min ?_
  | with_reducible refine' go_int ?_
  | with_reducible refine' go_intB ?_
  | (with_reducible refine' go_eq rfl ?_)
  | (with_reducible refine' go_ne rfl ?_)
  | with_reducible refine' go_isN ?_
  | with_reducible refine' go_notN ?_
  | with_reducible refine' go_if ?_
  | with_reducible refine' go_sub ?_
  | with_reducible refine' go_par ?_
  | with_reducible refine' go_sl ?_
  | with_reducible refine' go_part ?_
  | with_reducible refine' go_pint ?_
  | with_reducible refine' go_nopart ?_
  | ((with_reducible refine' go_lenL ?hh ?_); (case hh => walk_at "heap"))
  | ((with_reducible refine' go_lenT ?hh ?_); (case hh => walk_at "heap"))
  | ((with_reducible refine' go_lenS ?hh ?_); (case hh => assumption))
  | with_reducible refine' go_gcons ?_
  | with_reducible refine' go_gnil ?_
  | with_reducible refine' go_kw ?_
  | with_reducible refine' go_par2 ?_
  | with_reducible refine' go_next ?_
  | with_reducible refine' go_drop ?_
  | with_reducible refine' go_and ?_
  | with_reducible refine' go_or ?_
  | with_reducible refine' go_not ?_
  | with_reducible refine' go_B ?_
  | with_reducible refine' go_andV ?_
  | with_reducible refine' go_orV ?_
  | with_reducible refine' go_notV ?_
  | with_reducible refine' go_chain ?_
  | with_reducible refine' go_un ?_
  | with_reducible refine' go_U ?_
  | with_reducible refine' go_bm ?_
  | with_reducible refine' go_tup ?_
  | with_reducible refine' go_lst ?_
  | with_reducible refine' go_forR1 ?_
  | with_reducible refine' go_forR2 ?_
  | with_reducible refine' go_forL ?_
  | with_reducible refine' go_forT ?_
  | with_reducible refine' go_forE ?_
  | with_reducible refine' go_lcR1 ?_
  | with_reducible refine' go_lcL ?_
  | with_reducible refine' go_lcT ?_
  | ((with_reducible refine' go_tyL ?hh ?_); (case hh => walk_at "heap"))
  | ((with_reducible refine' go_new ?hz ?_); (case hz => exact Nat.le_of_ble_eq_true rfl))
  | (with_reducible refine' ⟨_, rfl, ?_⟩)
  ))
--MACEND
theorem splitD_at : ∀ {p q : List Stg} {a : Int}, NoD p → splitD (p ++ .dial a :: q) = some (p, a, q)
  | [], q, a, _ => rfl
  | .dial b :: p, q, a, h => by have := h _ List.mem_cons_self; cases this
  | .mix b :: p, q, a, h => by
    show (match splitD (p ++ .dial a :: q) with | none => none | some (p, a, q) => some (Stg.mix b :: p, a, q)) = _
    rw [splitD_at fun s hs => h s (List.mem_cons_of_mem _ hs)]
  | .pass b c :: p, q, a, h => by
    show (match splitD (p ++ .dial a :: q) with | none => none | some (p, a, q) => some (Stg.pass b c :: p, a, q)) = _
    rw [splitD_at fun s hs => h s (List.mem_cons_of_mem _ hs)]
theorem splitD_nod : ∀ {ss : List Stg}, NoD ss → splitD ss = none
  | [], _ => rfl
  | .dial b :: p, h => by have := h _ List.mem_cons_self; cases this
  | .mix b :: p, h => by
    show (match splitD p with | none => none | some (p, a, q) => some (Stg.mix b :: p, a, q)) = _
    rw [splitD_nod fun s hs => h s (List.mem_cons_of_mem _ hs)]
  | .pass b c :: p, h => by
    show (match splitD p with | none => none | some (p, a, q) => some (Stg.pass b c :: p, a, q)) = _
    rw [splitD_nod fun s hs => h s (List.mem_cons_of_mem _ hs)]
/-- the index of the dial stage -/
def placeD (ss : List Stg) : Option Int := match splitD ss with
  | none => none
  | some (p, _, _) => some (p.length : Int)
theorem cut_to (xs : List V) (k : Nat) : cutV xs none (some (k : Int)) = xs.take k := by
  unfold cutV
  rw [HT.sIx_none, HT.sIx_nat, List.drop_zero, Nat.sub_zero]
  rcases Nat.le_total k xs.length with h | h
  · rw [Nat.min_eq_left h]
  · rw [Nat.min_eq_right h, List.take_length, List.take_of_length_le h]
theorem cut_from (xs : List V) (k : Nat) : cutV xs (some (k : Int)) none = xs.drop k := by
  unfold cutV
  rw [HT.sIx_none, HT.sIx_nat]
  rcases Nat.le_total k xs.length with h | h
  · rw [Nat.min_eq_left h]
    exact List.take_of_length_le (by rw [List.length_drop]; exact Nat.le_refl _)
  · rw [Nat.min_eq_right h, List.drop_length, List.drop_of_length_le h, List.take_nil]
theorem dqa_take {H : Hp} {vs : List V} {ds : List PyData} (h : DqAll H vs ds) : ∀ k, DqAll H (vs.take k) (ds.take k) := by
  induction h using DqAll.rec (motive_1 := fun _ _ _ => True) with
  | nil => intro k; rw [List.take_nil, List.take_nil]; exact .nil
  | cons h1 h2 _ ih =>
    intro k
    cases k with
    | zero => exact .nil
    | succ k => exact .cons h1 (ih k)
  | _ => trivial
theorem dqa_drop {H : Hp} {vs : List V} {ds : List PyData} (h : DqAll H vs ds) : ∀ k, DqAll H (vs.drop k) (ds.drop k) := by
  induction h using DqAll.rec (motive_1 := fun _ _ _ => True) with
  | nil => intro k; rw [List.drop_nil, List.drop_nil]; exact .nil
  | cons h1 h2 _ ih =>
    intro k
    cases k with
    | zero => exact .cons h1 h2
    | succ k => exact ih k
  | _ => trivial
def spDP : Sp := fun vs H Q _ => ∃ x ss, vs = [x] ∧ Dq H x (.list (ss.map Stg.d)) ∧ ∀ H', Ex H H' → Q (optV (placeD ss)) H'
def spBS : Sp := fun vs H Q _ => ∃ x ss d n, vs = [x, .int d, optV n] ∧ Dq H x (.list (ss.map Stg.d)) ∧ ∀ H', Ex H H' → Q (optV (lastT d ss n)) H'
/-- the stretches of a line -/
def lineL (p : List Stg) (a : Int) (q : List Stg) (sig dial way : Int) : List Sx := match lastT 0 p (some sig) with
  | none => []
  | some m => parted (strAt 0 (.dial (way * ((m - a) - dial)) :: q))
def spDL : Sp := fun vs H Q _ => ∃ x ss rate sig dial way p a q, vs = [x, .int sig, .int dial, .int way] ∧ Dq H x (radD ss rate) ∧ splitD ss = some (p, a, q) ∧ ss.length ≤ 8 ∧ (way = 1 ∨ way = -1) ∧
  ∀ l H', Ex H H' → H l = none → Lx H' l (lineL p a q sig dial way) → Q (.ref l) H'
section
variable {P : Program} {w : World} {K : PySem.W.Frag} {mg : Str → Option Value} {base : Heap}
abbrev s_dial_place : Stmt := top 10
theorem sc_dial_place : FnScope ["stages", "index", "stage"] ["stages"] (defScope s_dial_place) := ⟨rfl, rfl, rfl, by decide +kernel, rfl, by decide +kernel, by decide +kernel⟩
theorem ok_dial_place {f : Addr} {fd : FuncData} (F : Fun K "dial_place" "dial_place" s_dial_place f fd) (m_enumerate : mg "enumerate" = none) : FnOk P w K mg base CX0 1 f fd ["stages"] spDP := by
  refine F.ok sc_dial_place (fun vs H Q E h => ?_) (fun cdv A outer s H vs Q E hr h => ?_)
  · obtain ⟨x, ss, rfl, _⟩ := h
    rfl
  · obtain ⟨x, ss, rfl, hx, k⟩ := h
    refine ⟨_, (pss_cons (ps_for PassesOwn.never rfl (pi_enum (by rfl) m_enumerate (pa_cons (pv 0) pa_nil)) (pg_tup (by rfl) (pgs_cons (pg_name (i := 1) sc_dial_place.nd rfl (Or.inl rfl)) (pgs_cons (pg_name (i := 2) sc_dial_place.nd rfl (Or.inl rfl)) pgs_nil)))
  (pss_one (ps_if (pt_cmpR op_eq (pe_ix ix_tup (pv 2) pe_int (fun _ _ => rfl)) pe_str (nomark _))
  (pss_one (ps_ret (pv 1)))
  pss_nil)))
  (pss_one (ps_ret pe_non))), ?_⟩
    obtain ⟨a, xs, rfl, ha, hda⟩ := hx.listAt
    walk_at "rd"
    refine ⟨a, xs, rfl, .inl ha, ?_⟩
    refine run_forE xs (fun i σ G => ∃ (v1 v2 : Option V), σ = [some (.ref a), v1, v2] ∧ Ex H G ∧ NoD (ss.take i)) ?_ ?_ ?_ ?_
    · exact ⟨_, _, rfl, Ex.refl _, fun _ h => nomatch h⟩
    · rintro i σ G _ ⟨_, _, rfl, e, _⟩
      exact .inl (Evl.ex_rd e ha)
    · rintro i v σ G T hi ⟨v1, v2, rfl, e, hn⟩ hT
      obtain ⟨st, hs, hv⟩ := dqa_get hda hi
      have xT := Ex.new (o := HO.tup [.int (i : Nat), v]) hT
      have hTt : upd G T (.tup [.int (i : Nat), v]) T = some (.tup [.int (i : Nat), v]) := upd_same
      have eT := e.trans xT
      generalize upd G T (.tup [.int (i : Nat), v]) = G2 at *
      obtain ⟨b, zs, rfl, hb, h0⟩ := stg_nm (hv.ex eT)
      refine go_gtup (.inl (.inl hTt)) rfl ?_
      walk_at "rd"
      rw [nm_dial]
      refine ite2 (fun c => ?_) (fun c => ?_)
      · cases st with
        | dial add =>
          walk_at "rd"
          have := k _ eT
          have es : ss = ss.take i ++ .dial add :: ss.drop (i + 1) := by
            have lt := (List.getElem?_eq_some_iff.mp hs).1
            have e2 := (List.getElem?_eq_some_iff.mp hs).2
            rw [← e2, ← List.drop_eq_getElem_cons lt, List.take_append_drop]
          unfold placeD at this
          rw [show splitD ss = some (ss.take i, add, ss.drop (i + 1)) from by
            have := splitD_at (q := ss.drop (i + 1)) (a := add) hn
            rwa [← es] at this] at this
          dsimp only at this
          rw [List.length_take, Nat.min_eq_left (Nat.le_of_lt (List.getElem?_eq_some_iff.mp hs).1)] at this
          exact this
        | mix lo => cases c
        | pass lo hi => cases c
      · walk_at "rd"
        refine ⟨_, _, rfl, eT, fun s hm => ?_⟩
        rw [List.take_succ, hs] at hm
        rcases List.mem_append.mp hm with hm | hm
        · exact hn s hm
        · rw [show (some st).toList = [st] from rfl, List.mem_singleton] at hm
          subst hm
          simpa using c
    · rintro σ G ⟨_, _, rfl, e, hn⟩
      rw [hda.len, List.length_map, List.take_length] at hn
      walk_at "rd"
      have := k _ e
      unfold placeD at this
      rw [splitD_nod hn] at this
      exact this
abbrev s_behind_stages : Stmt := top 12
theorem sc_behind_stages : FnScope ["stages", "dial", "number", "stage"] ["stages", "dial", "number"] (defScope s_behind_stages) := ⟨rfl, rfl, rfl, by decide +kernel, rfl, by decide +kernel, by decide +kernel⟩
theorem ok_behind_stages {f : Addr} {fd : FuncData} (F : Fun K "behind_stages" "behind_stages" s_behind_stages f fd) (h_behind_stage : Has P w K mg base 2 "behind_stage" spBehind) : FnOk P w K mg base CX0 3 f fd ["stages", "dial", "number"] spBS := by
  refine F.ok sc_behind_stages (fun vs H Q E h => ?_) (fun cdv A outer s H vs Q E hr h => ?_)
  · obtain ⟨x, ss, d, n, rfl, _⟩ := h
    rfl
  · obtain ⟨x, ss, d, n, rfl, hx, k⟩ := h
    refine ⟨_, (pss_cons (ps_for PassesOwn.never rfl (pi_list (pv 0)) (pg_name (i := 3) sc_behind_stages.nd rfl (Or.inl rfl))
  (pss_one (ps_set (i := 2) sc_behind_stages.nd rfl (Or.inl rfl) (pe_hs h_behind_stage hr rfl (pa_cons (pv 3) (pa_cons (pv 1) (pa_cons (pv 2) pa_nil)))))))
  (pss_one (ps_ret (pv 2)))), ?_⟩
    obtain ⟨a, xs, rfl, ha, hda⟩ := hx.listAt
    walk_at "rd"
    refine ⟨⟨xs, .inl ha⟩, ?_⟩
    refine run_forL xs (fun i σ G => ∃ (v3 : Option V), σ = [some (.ref a), some (.int d), some (optV (lastT d (ss.take i) n)), v3] ∧ Ex H G) ?_ ?_ ?_ ?_
    · exact ⟨_, rfl, Ex.refl _⟩
    · rintro i σ G _ ⟨_, rfl, e⟩
      exact .inl (Evl.ex_rd e ha)
    · rintro i v σ G hi ⟨v3, rfl, e⟩
      obtain ⟨st, hs, hv⟩ := dqa_get hda hi
      walk_at "rd"
      refine ⟨v, st, d, _, rfl, hv.ex e, fun G1 e1 => ?_⟩
      walk_at "rd"
      refine ⟨some v, ?_, e.trans e1⟩
      rw [(tones_take d ss n i st hs).2]
      rfl
    · rintro σ G ⟨v3, rfl, e⟩
      rw [hda.len, List.length_map, List.take_length]
      walk_at "rd"
      exact k _ e
abbrev s_dial_line : Stmt := top 38
theorem sc_dial_line : FnScope ["receiver", "signal", "dial", "way", "stages", "place", "number", "center"] ["receiver", "signal", "dial", "way"] (defScope s_dial_line) := ⟨rfl, rfl, rfl, by decide +kernel, rfl, by decide +kernel, by decide +kernel⟩
theorem ok_dial_line {f : Addr} {fd : FuncData} (F : Fun K "dial_line" "dial_line" s_dial_line f fd) (h_dial_place : Has P w K mg base 1 "dial_place" spDP) (h_behind_stages : Has P w K mg base 3 "behind_stages" spBS)
    (h_parted_stretches : Has P w K mg base 5 "parted_stretches" spPart) : FnOk P w K mg base CX0 6 f fd ["receiver", "signal", "dial", "way"] spDL := by
  refine F.ok sc_dial_line (fun vs H Q E h => ?_) (fun cdv A outer s H vs Q E hr h => ?_)
  · obtain ⟨x, ss, rate, sig, dial, way, p, a, q, rfl, _⟩ := h
    rfl
  · obtain ⟨x, ss, rate, sig, dial, way, p, a, q, rfl, hx, hsp, h8, hw, k⟩ := h
    refine ⟨_, (pss_cons (ps_set (i := 4) sc_dial_line.nd rfl (Or.inl rfl) (pe_ix ix_tup (pv 0) pe_int (fun _ _ => rfl)))
  (pss_cons (ps_set (i := 5) sc_dial_line.nd rfl (Or.inl rfl) (pe_hs h_dial_place hr rfl (pa_cons (pv 4) pa_nil)))
  (pss_cons (ps_set (i := 6) sc_dial_line.nd rfl (Or.inl rfl) (pe_hs h_behind_stages hr rfl (pa_cons (pe_slice sl_list (pv 4) po_none (po_some (pv 5))) (pa_cons pe_int (pa_cons (pv 1) pa_nil)))))
  (pss_cons (ps_if (pt_cmpR op_isN1 (pv 6) pe_non (nomark _))
  (pss_one (ps_ret (pe_lst pa_nil)))
  pss_nil)
  (pss_cons (ps_set (i := 7) sc_dial_line.nd rfl (Or.inl rfl) (pe_op op_sub (pv 6) (pe_ix ix_tup (pe_ix ix_list (pv 4) (pv 5) (fun _ _ => rfl)) pe_int (fun _ _ => rfl))))
  (pss_one (ps_ret (pe_hs h_parted_stretches hr rfl (pa_cons (pe_op op_cat (pe_lst (pa_cons (pe_tup (pa_cons pe_str (pa_cons (pe_op op_mul (pv 3) (pe_op op_sub (pv 7) (pv 2))) pa_nil))) pa_nil)) (pe_slice sl_list (pv 4) (po_some (pe_op op_add (pv 5) pe_int)) po_none)) (pa_cons pe_int pa_nil)))))))))), ?_⟩
    obtain ⟨es, np⟩ := splitD_some hsp
    obtain ⟨b, xs, rfl, hb, hda⟩ := Dq.tupleAt (ds := [.list (ss.map Stg.d), rateD rate]) hx
    obtain ⟨v1, v2, d1, d2, rfl, ed, hv1, hv2⟩ := dqa2 hda rfl
    obtain ⟨rfl, rfl⟩ : PyData.list (ss.map Stg.d) = d1 ∧ rateD rate = d2 := by simpa using ed
    walk_at "rd"
    refine ⟨v1, ss, rfl, hv1, fun H1 e1 => ?_⟩
    rw [show placeD ss = some (p.length : Int) from by unfold placeD; rw [hsp], show optV (some (p.length : Int)) = V.int p.length from rfl]
    have hv1' := hv1.ex e1
    obtain ⟨l, ys, rfl, hl, hys⟩ := hv1'.listAt
    walk_at "rd"
    refine go_slL hl fun l1 hl1 => ?_
    have e2 := Ex.new (o := HO.lst (cutV ys none (some (p.length : Int)))) hl1
    walk_at "rd"
    refine ⟨.ref l1, p, 0, some sig, rfl, ?_, fun H3 e3 => ?_⟩
    · rw [cut_to]
      have := dqa_take hys p.length
      rw [es, List.map_append, List.take_left' (by simp)] at this
      exact .lst (.inl upd_same) (this.ex (Ex.new hl1))
    have E3 := (e1.trans e2).trans e3
    have hl3 := Evl.ex_rd (e2.trans e3) hl
    walk_at "rd"
    unfold lineL at k
    cases hm : lastT 0 p (some sig) with
    | none =>
      rw [hm] at k
      refine ite2 (fun _ => ?_) (fun c => absurd (by simp [optV]) c)
      walk_at "rd"
      intro r hr
      exact k r _ (E3.trans (Ex.new hr)) (Evl.fresh_back E3 hr) ⟨[], upd_same, Txs.nil⟩
    | some m =>
      rw [hm] at k
      refine ite2 (fun c => absurd c (by simp [optV])) (fun _ => ?_)
      rw [show optV (some m) = V.int m from rfl]
      have hat : ys[p.length]? ≠ none := fun z => by
        have := List.getElem?_eq_none_iff.mp z
        rw [hys.len, List.length_map, es, List.length_append, List.length_cons] at this
        omega
      obtain ⟨v, hv⟩ := Option.ne_none_iff_exists'.mp hat
      obtain ⟨st, hs, hst⟩ := dqa_get (ss := ss) hys hv
      have e4 : st = .dial a := by
        rw [es, List.getElem?_append_right (Nat.le_refl _), Nat.sub_self] at hs
        cases hs
        rfl
      subst e4
      obtain ⟨c, rfl, hc⟩ := stg_at (hst.ex (e2.trans e3))
      dsimp only at hc
      walk_at "rd"
      refine go_ixL hl3 (atI_nat hv) ?_
      walk_at "rd"
      have cm : CMul way (m - a - dial) := by rcases hw with w | w <;> (rw [w]; exact .inl ⟨by decide, by decide⟩)
      intro t ht
      have x4 := Ex.new (o := HO.tup [.str "dial", .int (way * (m - a - dial))]) ht
      walk_at "rd"
      intro l2 hl2
      have x5 := Ex.new (o := HO.lst [.ref t]) hl2
      walk_at "rd"
      refine go_slL (Evl.ex_rd (x4.trans x5) hl3) fun l3 hl3' => ?_
      have x6 := Ex.new (o := HO.lst (cutV ys (some ((p.length : Int) + 1)) none)) hl3'
      have y8 : ys.length ≤ 8 := by rw [hys.len, List.length_map]; exact h8
      have cl := cutV_length ys (some ((p.length : Int) + 1)) none
      refine go_cat (x6 _ _ upd_same) upd_same (Nat.le_of_lt (big5 (by simp only [List.length_cons, List.length_nil]; omega))) fun l4 hl4 => ?_
      have x7 := Ex.new (o := HO.lst ([.ref t] ++ cutV ys (some ((p.length : Int) + 1)) none)) hl4
      have X := ((x4.trans x5).trans x6).trans x7
      walk_at "rd"
      refine ⟨.ref l4, .dial (way * (m - a - dial)) :: q, 0, rfl, ?_, ?_, fun r H5 e5 hf hL => ?_⟩
      · refine .lst (.inl upd_same) (.cons (.tup (.inl (((x5.trans x6).trans x7) _ _ upd_same)) (.cons (.str _) (.cons (.int _) .nil))) ?_)
        have e0 : (p.map Stg.d).drop (p.length + 1) = [] := List.drop_of_length_le (by rw [List.length_map]; omega)
        have := dqa_drop hys (p.length + 1)
        rw [es, List.map_append, List.map_cons, List.drop_append, List.length_map, show p.length + 1 - p.length = 1 by omega, e0, List.nil_append, ← cut_from ys (p.length + 1), show ((p.length + 1 : Nat) : Int) = (p.length : Int) + 1 by omega] at this
        exact (this.ex (e2.trans e3)).ex X
      · rw [es, List.length_append, List.length_cons] at h8
        rw [List.length_cons]
        omega
      · exact k r H5 ((E3.trans X).trans e5) (Evl.fresh_back (E3.trans X) hf) hL
end
end Kx

set_option Elab.async false
set_option linter.all false
set_option maxRecDepth 100000
set_option maxHeartbeats 4000000
namespace Kx
open PySem PySem.Spec PyProof.Rows L2 HX
theorem dials_splitS {p q : List Stg} {a : Int} : dials (p ++ .dial a :: q) = dials p + (1 + dials q) := by
  rw [← dials_dialG a q]
  unfold dials
  rw [List.filter_append, List.length_append]
theorem split_of_one {ss : List Stg} (one : dials ss = 1) : ∃ p a q, splitD ss = some (p, a, q) ∧ ss = p ++ .dial a :: q ∧ NoD p ∧ NoD q ∧ dials p = 0 ∧ dials q = 0 := by
  cases hsp : splitD ss with
  | none =>
    have := splitD_none hsp
    have z : dials ss = 0 := by
      unfold dials
      rw [List.length_eq_zero_iff, List.filter_eq_nil_iff]
      intro s hs
      rw [this s hs]
      decide
    omega
  | some t =>
    obtain ⟨p, a, q⟩ := t
    obtain ⟨e, np⟩ := splitD_some hsp
    have d : dials p + (1 + dials q) = 1 := by rw [← dials_splitS (a := a), ← e]; exact one
    exact ⟨p, a, q, rfl, e, np, dials_zero (by omega), by omega, by omega⟩
/-- far dials, up (w 1) or down (w -1): silence for good, or numbers that grow with the dial -/
theorem far_line {ss : List Stg} {sig top A w : Int} (one : dials ss = 1) (l8 : ss.length ≤ 8) (fi : ∀ s ∈ ss, s.fine top) (t0 : 0 ≤ top) (s0 : 0 ≤ sig) (s1 : sig ≤ A) (tA : top ≤ A) (hw : w = 1 ∨ w = -1) :
    (∀ t, 18 * top + A + 1 ≤ t → mixF (w * t) ss sig = none) ∨ ∃ c, -(A + 8 * top) ≤ c ∧ ∀ t, 18 * top + A + 1 ≤ t → mixF (w * t) ss sig = some (t + c) := by
  obtain ⟨p, a, q, _, ess, np, nq, dp, dq⟩ := split_of_one one
  have fa : (Stg.dial a).fine top := fi _ (by rw [ess]; simp)
  have fp : ∀ s ∈ p, s.fine top := fun s hs => fi s (by rw [ess]; simp [hs])
  have fq : ∀ s ∈ q, s.fine top := fun s hs => fi s (by rw [ess]; simp [hs])
  have lq : (q.length : Int) ≤ 7 := by
    have := congrArg List.length ess
    rw [List.length_append, List.length_cons] at this
    omega
  obtain ⟨a0, a1⟩ : -top ≤ a ∧ a ≤ top := fa
  have mix : ∀ d, mixF d ss sig = lastT d (.dial a :: q) (lastT 0 p (some sig)) := fun d => by
    show lastT d ss (some sig) = _
    rw [ess, lastT_app, lastT_nod (d' := 0) np]
  cases hm : lastT 0 p (some sig) with
  | none => exact .inl fun t _ => by rw [mix, hm, lastT_none]
  | some m =>
    obtain ⟨m0, mb⟩ := tone_maxG (d := 0) (D := 0) (E := 0) (top := top) (by omega) (by omega) (by omega) (by omega) p sig m A fp tA (by omega) s0 s1 hm
    rw [dp, Int.natCast_zero, Int.mul_zero] at mb
    have far : ∀ t, 18 * top + A + 1 ≤ t → mixF (w * t) ss sig = lastT 0 q (some (t + w * (a - m))) := fun t ht => by
      rw [mix, hm]
      show lastT (w * t) q (some (if m - (w * t + a) < 0 then -(m - (w * t + a)) else m - (w * t + a))) = _
      rw [show (if m - (w * t + a) < 0 then -(m - (w * t + a)) else m - (w * t + a)) = t + w * (a - m) by rcases hw with h | h <;> rw [h] <;> split <;> omega, lastT_nod (d' := 0) nq]
    have wb : -(A + top) ≤ w * (a - m) ∧ w * (a - m) ≤ A + top := by rcases hw with h | h <;> rw [h] <;> omega
    have G := farG (d := 0) (D := 0) (top := top) (by omega) t0 (by omega) q fq
    rw [dq, Int.natCast_zero, Int.mul_zero] at G
    have tl : top * (q.length : Int) ≤ top * 7 := Int.mul_le_mul_of_nonneg_left lq t0
    generalize top * (q.length : Int) = Y at *
    rcases G with G | ⟨S, hS, G⟩
    · exact .inl fun t ht => by rw [far t ht]; exact G _ (by omega)
    · exact .inr ⟨w * (a - m) - S, by omega, fun t ht => by rw [far t ht, G _ (by omega)]; congr 1; omega⟩
end Kx

set_option Elab.async false
set_option linter.all false
set_option maxRecDepth 100000
set_option maxHeartbeats 4000000

namespace Kx
open PySem PySem.Spec PyProof.Rows L2 HX
open Evl (Ex)
local macro_rules | `(tactic| walk_at "side") => `(tactic| first | assumption | ((try dsimp only); first | assumption | decide +kernel | omega | exact ⟨by decide, by decide⟩ | (left; decide) | (left; omega) | (refine Or.inl ⟨?_, ?_⟩ <;> omega) | (refine Or.inr ⟨?_, ?_⟩ <;> omega)))
local macro_rules | `(tactic| walk_at "heap") => `(tactic| first | assumption | exact upd_same | exact Or.inl (by assumption) | exact Or.inl upd_same)
local macro_rules | `(tactic| walk_at "item") => `(tactic| first | exact rfl | exact atI_nat (j := 0) rfl | exact atI_nat (j := 1) rfl | exact atI_nat (j := 2) rfl | assumption)
local macro_rules | `(tactic| walk_at "rd") => `(tactic| repeat (first
  | ((with_reducible refine' go_var ?hv ?_); (case hv => exact rfl))
  | with_reducible refine' go_c ?_
  | with_reducible refine' go_op ?_
  | with_reducible refine' go_seq ?_
  | with_reducible refine' go_asg ?_
  | with_reducible refine' go_name ?_
  | with_reducible refine' go_cons ?_
  | with_reducible refine' go_nil ?_
  | with_reducible refine' go_cb ?_
  | with_reducible refine' go_call ?_
  | with_reducible refine' go_ifS ?_
  | with_reducible refine' go_test ?_
  | with_reducible refine' go_bl ?_
  | with_reducible refine' go_ret ?_
  | with_reducible refine' go_I0 ?_
  | ((with_reducible refine' go_I ?cc ?_); (case cc => walk_at "side"))
  | ((with_reducible refine' go_ixL ?hh ?hk ?_); (case hh => walk_at "heap"); (case hk => walk_at "item"))
  | ((with_reducible refine' go_ixT ?hh ?hk ?_); (case hh => walk_at "heap"); (case hk => walk_at "item"))
  | ((with_reducible refine' go_lenL ?hh ?_); (case hh => walk_at "heap"))
  | ((with_reducible refine' go_lenT ?hh ?_); (case hh => walk_at "heap"))
  | ((with_reducible refine' go_setL ?hh ?hk ?_); (case hh => walk_at "heap"); (case hk => walk_at "item"))
  | with_reducible refine' go_abs ?_
  | with_reducible refine' go_max ?_
  | with_reducible refine' go_min ?_
  | with_reducible refine' go_int ?_
  | with_reducible refine' go_intB ?_
  | (with_reducible refine' go_eq rfl ?_)
  | (with_reducible refine' go_ne rfl ?_)
  | with_reducible refine' go_isN ?_
  | with_reducible refine' go_notN ?_
  | with_reducible refine' go_if ?_
  | with_reducible refine' go_sub ?_
  | with_reducible refine' go_par ?_
  | with_reducible refine' go_sl ?_
  | with_reducible refine' go_part ?_
  | with_reducible refine' go_pint ?_
  | with_reducible refine' go_nopart ?_
  | ((with_reducible refine' go_lenL ?hh ?_); (case hh => walk_at "heap"))
  | ((with_reducible refine' go_lenT ?hh ?_); (case hh => walk_at "heap"))
  | ((with_reducible refine' go_lenS ?hh ?_); (case hh => assumption))
  | with_reducible refine' go_gcons ?_
  | with_reducible refine' go_gnil ?_
  | with_reducible refine' go_kw ?_
  | with_reducible refine' go_par2 ?_
  | with_reducible refine' go_next ?_
  | with_reducible refine' go_drop ?_
  | with_reducible refine' go_and ?_
  | with_reducible refine' go_or ?_
  | with_reducible refine' go_not ?_
  | with_reducible refine' go_B ?_
  | with_reducible refine' go_andV ?_
  | with_reducible refine' go_orV ?_
  | with_reducible refine' go_notV ?_
  | with_reducible refine' go_chain ?_
  | with_reducible refine' go_un ?_
  | with_reducible refine' go_U ?_
  | with_reducible refine' go_bm ?_
  | with_reducible refine' go_tup ?_
  | with_reducible refine' go_lst ?_
  | with_reducible refine' go_forR1 ?_
  | with_reducible refine' go_forR2 ?_
  | with_reducible refine' go_forL ?_
  | with_reducible refine' go_forT ?_
  | with_reducible refine' go_forE ?_
  | with_reducible refine' go_lcR1 ?_
  | with_reducible refine' go_lcL ?_
  | with_reducible refine' go_lcT ?_
  | ((with_reducible refine' go_tyL ?hh ?_); (case hh => walk_at "heap"))
  | ((with_reducible refine' go_new ?hz ?_); (case hz => exact Nat.le_of_ble_eq_true rfl))
  | (with_reducible refine' ⟨_, rfl, ?_⟩)
  ))
--MACEND
/-- the numbers of a stage within B -/
def Stg.sz (B : Nat) : Stg → Prop
  | .mix lo => lo.natAbs ≤ B
  | .dial a => a.natAbs ≤ B
  | .pass a b => a.natAbs ≤ B ∧ b.natAbs ≤ B
theorem lastT_sz {B : Nat} {d : Int} : ∀ {p : List Stg} {n m : Int}, NoD p → (∀ s ∈ p, s.sz B) → lastT d p (some n) = some m → m.natAbs ≤ n.natAbs + p.length * B
  | [], n, m, _, _, h => by
    have h : some n = some m := h
    cases h
    simp
  | s :: p, n, m, hn, hs, h => by
    have h : lastT d p (s.step d (some n)) = some m := h
    have f := hs s List.mem_cons_self
    obtain ⟨n', e, l⟩ : ∃ n', s.step d (some n) = some n' ∧ n'.natAbs ≤ n.natAbs + B := by
      cases s with
      | mix lo =>
        refine ⟨_, rfl, ?_⟩
        have f : lo.natAbs ≤ B := f
        split <;> omega
      | dial a => have := hn _ List.mem_cons_self; cases this
      | pass a b =>
        by_cases c : a ≤ n ∧ n ≤ b
        · exact ⟨n, if_pos c, by omega⟩
        · rw [show (Stg.pass a b).step d (some n) = none from if_neg c, lastT_none] at h
          cases h
    rw [e] at h
    have := lastT_sz (fun t ht => hn t (List.mem_cons_of_mem _ ht)) (fun t ht => hs t (List.mem_cons_of_mem _ ht)) h
    rw [List.length_cons, Nat.add_mul]
    omega
/-- the pieces of the steps at which a signal is in a band -/
theorem line_ok {ss p q : List Stg} {a sig dial way b0 b1 : Int} {rate : Option Int} {ps : List Pc} (hf : fault (radD ss rate) = none) (hsp : splitD ss = some (p, a, q)) (hw : way = 1 ∨ way = -1) (hz : ∀ s ∈ ss, s.sz (2 ^ 320)) (hs : sig.natAbs ≤ 2 ^ 320) (hd : dial.natAbs ≤ 2 ^ 320)
    (h0 : 0 ≤ b0) (h1 : b0 ≤ b1) (hb : b1.natAbs < 2 ^ 1990) (sm : ∀ r, rate = some r → Sm r) (h : BandPs rate b0 b1 (lineL p a q sig dial way) ps) (hl : ∀ t ∈ ps, t.sp.length ≤ 4) :
    PsB ps ∧ ∀ x, 0 ≤ x → hasB ps x = dialF ss rate sig b0 b1 (dial + way * x) := by
  obtain ⟨es, np⟩ := splitD_some hsp
  have nq := split_nod hf hsp
  obtain ⟨_, l8, hP, r2⟩ := rad_ok hf
  unfold lineL at h
  cases hm : lastT 0 p (some sig) with
  | none =>
    rw [hm] at h
    have e : ps = [] := by
      cases rate with
      | none => cases h; rfl
      | some r => cases h; rfl
    subst e
    refine ⟨⟨⟨(fun _ h => nomatch h), List.Pairwise.nil⟩, (fun _ h => nomatch h), Nat.zero_le _⟩, fun x _ => ?_⟩
    show false = _
    unfold dialF heardF
    rw [toneF_none (by rw [es]; exact line_none np hm)]
    rfl
  | some m =>
    rw [hm] at h
    have hm2 := lastT_sz np (fun s hs => hz s (by rw [es]; exact List.mem_append_left _ hs)) hm
    have lp : p.length ≤ 8 := by rw [es, List.length_append] at l8; omega
    have ha : a.natAbs ≤ 2 ^ 320 := hz (.dial a) (by rw [es]; simp)
    have mb : m.natAbs ≤ 9 * 2 ^ 320 := by
      have : p.length * 2 ^ 320 ≤ 8 * 2 ^ 320 := Nat.mul_le_mul_right _ lp
      generalize (2 : Nat) ^ 320 = Z at *
      omega
    have cb : (way * ((m - a) - dial)).natAbs ≤ 16 * 2 ^ 320 := by
      generalize (2 : Nat) ^ 320 = Z at *
      rcases hw with w | w <;> rw [w] <;> omega
    obtain ⟨o, k⟩ := bandPs_ok (dial := 0) (ss := .dial (way * ((m - a) - dial)) :: q) (B := 16 * 2 ^ 320) (fun s hs a b e => by
        rcases List.mem_cons.mp hs with rfl | hs
        · cases e
        · exact hP s (by rw [es]; simp [hs]) a b e) (by rw [es, List.length_append, List.length_cons] at l8; rw [List.length_cons]; omega) (fun s hs => by
        rcases List.mem_cons.mp hs with rfl | hs
        · show (0 + way * ((m - a) - dial)).natAbs ≤ _
          rw [Int.zero_add]
          exact cb
        · have z := hz s (by rw [es]; simp [hs])
          have nd := nq s hs
          cases s with
          | mix lo => exact Nat.le_trans (show lo.natAbs ≤ 2 ^ 320 from z) (by decide +kernel)
          | dial c => cases nd
          | pass c d => exact ⟨Nat.le_trans z.1 (by decide +kernel), Nat.le_trans z.2 (by decide +kernel)⟩) (by decide +kernel) h0 h1 hb (fun r hr => ⟨r2 r hr, sm r hr⟩) h hl
    refine ⟨o, fun x x0 => ?_⟩
    rw [k x x0]
    unfold dialF
    refine heard_of_mix ?_
    rw [es]
    exact line_eq np nq hw hm
def LowD (dx ds db dd : PyData) : Prop := ∀ ss rate sig b0 b1 d, dx = radD ss rate → ds = .int sig → db = .tuple [.int b0, .int b1] → dd = .int d → (∀ s ∈ ss, s.sz (2 ^ 320)) ∧ (∀ r, rate = some r → Sm r) ∧ b1.natAbs < 2 ^ 1990 ∧ sig.natAbs ≤ 2 ^ 320 ∧ d.natAbs ≤ 2 ^ 320
structure TellD (CR CS CB CD CI : Addr) (dx ds db dd : PyData) (H : Hp) (E : XK) (good : Prop) : Prop where
  r : ∀ f, fault dx = some f → ∀ H' dd, Ex H H' → H dd = none → H' dd = some (.xd [("index", fltV f)]) → E (.ref CR) (some dd) H'
  s : fault dx = none → isNat ds = false → ∀ H', Ex H H' → E (.ref CS) none H'
  b : fault dx = none → isNat ds = true → isBand db = false → ∀ H', Ex H H' → E (.ref CB) none H'
  d : fault dx = none → isNat ds = true → isBand db = true → isInt dd = false → ∀ H', Ex H H' → E (.ref CD) none H'
  i : fault dx = none → isNat ds = true → isBand db = true → isInt dd = true → (∀ ss rate, dx = radD ss rate → splitD ss = none) → ∀ H', Ex H H' → E (.ref CI) none H'
  g : fault dx = none → isNat ds = true → isBand db = true → isInt dd = true → good
def spDial (R : (Int → Bool) → Int → V → Prop) (CR CS CB CD CI : Addr) : Sp := fun vs H Q E => ∃ x s b d dx ds db dd, vs = [x, s, b, d] ∧ Dq H x dx ∧ Dq H s ds ∧ Dq H b db ∧ Dq H d dd ∧ LowD dx ds db dd ∧
  TellD CR CS CB CD CI dx ds db dd H E (∀ ss rate sig b0 b1 dial, dx = radD ss rate → ds = .int sig → db = .tuple [.int b0, .int b1] → dd = .int dial → splitD ss ≠ none → 0 ≤ sig → 0 ≤ b0 → b0 ≤ b1 → ∀ v H', Ex H H' → R (dialF ss rate sig b0 b1) dial v → Q v H')
def RPrev (P : Int → Bool) (n : Int) (v : V) : Prop := ∃ o, v = optV o ∧ IsPrev P n o
def spCDS (CI : Addr) : Sp := fun vs H Q E => ∃ x ss rate, vs = [x] ∧ Dq H x (radD ss rate) ∧ (splitD ss = none → ∀ H', Ex H H' → E (.ref CI) none H') ∧ (splitD ss ≠ none → ∀ H', Ex H H' → Q .non H')
def spCO (CN : Addr) : Sp := fun vs H Q E => ∃ l g, vs = [.int l, .int g] ∧ (g < l → ∀ H', Ex H H' → E (.ref CN) none H') ∧ (l ≤ g → ∀ H', Ex H H' → Q .non H')
def spBO (CR CS CB : Addr) : Sp := fun vs H Q E => ∃ x s b dx ds db, vs = [x, s, b] ∧ Dq H x dx ∧ Dq H s ds ∧ Dq H b db ∧
  (∀ f, fault dx = some f → ∀ H' dd, Ex H H' → H dd = none → H' dd = some (.xd [("index", fltV f)]) → E (.ref CR) (some dd) H') ∧
  (fault dx = none → isNat ds = false → ∀ H', Ex H H' → E (.ref CS) none H') ∧
  (fault dx = none → isNat ds = true → isBand db = false → ∀ H', Ex H H' → E (.ref CB) none H') ∧
  (fault dx = none → isNat ds = true → isBand db = true → ∀ H', Ex H H' → Q .non H')
def spHF : Sp := fun vs H Q _ => ∃ x b ss rate sig dial way b0 b1, vs = [x, .int sig, b, .int dial, .int way] ∧ Dq H x (radD ss rate) ∧ PrR H b (b0, b1) ∧ fault (radD ss rate) = none ∧ splitD ss ≠ none ∧ (way = 1 ∨ way = -1) ∧ (∀ s ∈ ss, s.sz (2 ^ 320)) ∧ sig.natAbs ≤ 2 ^ 320 ∧ dial.natAbs ≤ 2 ^ 320 ∧
  0 ≤ b0 ∧ b0 ≤ b1 ∧ b1.natAbs < 2 ^ 1990 ∧ (∀ r, rate = some r → Sm r) ∧ ∀ q H' ps, Ex H H' → Lpc H' q ps → PsB ps → (∀ x, 0 ≤ x → hasB ps x = dialF ss rate sig b0 b1 (dial + way * x)) → Q (.ref q) H'
section
variable {P : Program} {w : World} {K : PySem.W.Frag} {mg : Str → Option Value} {base : Heap} {CR CS CB CD CN CI : Addr}
abbrev s_check_dial_stage : Stmt := top 28
theorem sc_check_dial_stage : FnScope ["receiver"] ["receiver"] (defScope s_check_dial_stage) := ⟨rfl, rfl, rfl, by decide +kernel, rfl, by decide +kernel, by decide +kernel⟩
theorem ok_check_dial_stage {f : Addr} {fd : FuncData} (F : Fun K "check_dial_stage" "check_dial_stage" s_check_dial_stage f fd) (T_Impossible : Err K mg "Impossible" CI) (h_dial_place : Has P w K mg base 1 "dial_place" spDP) :
    FnOk P w K mg base (L2N.CX P w) 2 f fd ["receiver"] (spCDS CI) := by
  refine okXN F sc_check_dial_stage (fun vs H Q E h => ?_) (fun cdv A outer s H vs Q E hr h => ?_)
  · obtain ⟨x, ss, rate, rfl, _⟩ := h
    rfl
  · obtain ⟨x, ss, rate, rfl, hx, k1, k2⟩ := h
    refine ⟨_, (pss_one (ps_if (pt_cmpR op_isN1 (pe_hs h_dial_place hr rfl (pa_cons (pe_ix ix_tup (pv 0) pe_int (fun _ _ => rfl)) pa_nil)) pe_non (nomark _))
  (pss_one (L2N.ps_raise rfl (L2N.takes_of rfl rfl rfl rfl) (L2N.pmk_own PySem.F.excBase_ValueError T_Impossible.x T_Impossible.g T_Impossible.k (raises_own T_Impossible.b T_Impossible.t) rfl)))
  pss_nil)), ?_⟩
    obtain ⟨b, xs, rfl, hb, hda⟩ := Dq.tupleAt (ds := [.list (ss.map Stg.d), rateD rate]) hx
    obtain ⟨v1, v2, d1, d2, rfl, ed, hv1, hv2⟩ := dqa2 hda rfl
    obtain ⟨rfl, rfl⟩ : PyData.list (ss.map Stg.d) = d1 ∧ rateD rate = d2 := by simpa using ed
    walk_at "rd"
    refine ⟨v1, ss, rfl, hv1, fun H1 e1 => ?_⟩
    walk_at "rd"
    cases hp : splitD ss with
    | none =>
      rw [show placeD ss = none from by unfold placeD; rw [hp]]
      refine ite2 (fun _ => ?_) (fun c => absurd (by simp [optV]) c)
      exact k1 hp _ e1
    | some t =>
      obtain ⟨p, a, q⟩ := t
      rw [show placeD ss = some (p.length : Int) from by unfold placeD; rw [hp]]
      refine ite2 (fun c => absurd c (by simp [optV])) (fun _ => ?_)
      walk_at "rd"
      exact k2 (by rw [hp]; simp) _ e1
end
end Kx

set_option Elab.async false
set_option linter.all false
set_option maxRecDepth 100000
set_option maxHeartbeats 4000000
namespace Kx
/-! ### sums of floors -/
def sf (f : Nat → Int) : Nat → Int
  | 0 => 0
  | n + 1 => sf f n + f n
theorem sf_congr {f g : Nat → Int} : ∀ {n : Nat}, (∀ i, i < n → f i = g i) → sf f n = sf g n
  | 0, _ => rfl
  | n + 1, h => by
    show sf f n + f n = sf g n + g n
    rw [sf_congr fun i hi => h i (by omega), h n (by omega)]
theorem sf_add (f g : Nat → Int) : ∀ n : Nat, sf (fun i => f i + g i) n = sf f n + sf g n
  | 0 => rfl
  | n + 1 => by
    show sf (fun i => f i + g i) n + (f n + g n) = sf f n + f n + (sf g n + g n)
    rw [sf_add f g n]
    omega
theorem sf_one : ∀ n : Nat, sf (fun _ => 1) n = n
  | 0 => rfl
  | n + 1 => by
    show sf (fun _ => 1) n + 1 = _
    rw [sf_one n]
    omega
theorem sf_front (f : Nat → Int) : ∀ n : Nat, sf f (n + 1) = f 0 + sf (fun t => f (t + 1)) n
  | 0 => by show 0 + f 0 = f 0 + 0; omega
  | n + 1 => by
    show sf f (n + 1) + f (n + 1) = f 0 + (sf (fun t => f (t + 1)) n + f (n + 1))
    rw [sf_front f n]
    omega
theorem sf_rev : ∀ (n : Nat) (f : Nat → Int), sf f n = sf (fun t => f (n - 1 - t)) n
  | 0, _ => rfl
  | n + 1, f => by
    rw [sf_front (fun t => f (n + 1 - 1 - t)) n]
    show sf f n + f n = f n + sf (fun t => f (n + 1 - 1 - (t + 1))) n
    rw [sf_rev n f, sf_congr (g := fun t => f (n + 1 - 1 - (t + 1))) fun i hi => by
      show f (n - 1 - i) = f (n + 1 - 1 - (i + 1))
      congr 1
      omega]
    omega
/-- the sum of (a * i + b) / m for i below n -/
def fs (a b m : Int) (n : Nat) : Int := sf (fun i => (a * i + b) / m) n
theorem fs_succ (a b m : Int) (n : Nat) : fs a b m (n + 1) = fs a b m n + (a * n + b) / m := rfl
def tri (n : Nat) : Int := (n : Int) * ((n : Int) - 1) / 2
theorem tri_two (n : Nat) : 2 * tri n = (n : Int) * ((n : Int) - 1) := by
  induction n with
  | zero => rfl
  | succ n ih =>
    have e : ((n + 1 : Nat) : Int) * (((n + 1 : Nat) : Int) - 1) = (n : Int) * ((n : Int) - 1) + 2 * n := by
      rw [show ((n + 1 : Nat) : Int) = (n : Int) + 1 by omega, show (n : Int) + 1 - 1 = n by omega, Int.mul_sub, Int.add_mul]
      omega
    unfold tri
    rw [e, ← ih]
    omega
theorem tri_succ (n : Nat) : tri (n + 1) = tri n + n := by
  have h1 := tri_two n
  have h2 := tri_two (n + 1)
  have e : ((n + 1 : Nat) : Int) * (((n + 1 : Nat) : Int) - 1) = (n : Int) * ((n : Int) - 1) + 2 * n := by
    rw [show ((n + 1 : Nat) : Int) = (n : Int) + 1 by omega, show (n : Int) + 1 - 1 = n by omega, Int.mul_sub, Int.add_mul]
    omega
  omega
theorem fs_red {a b m : Int} (m0 : 0 < m) : ∀ n : Nat, fs a b m n = a / m * tri n + b / m * n + fs (a % m) (b % m) m n
  | 0 => by
    show 0 = a / m * 0 + b / m * 0 + 0
    simp
  | n + 1 => by
    rw [fs_succ, fs_succ, fs_red m0 n, tri_succ]
    have e : a * n + b = (a % m) * n + b % m + m * (a / m * n + b / m) := by
      have h1 := Int.emod_add_mul_ediv a m
      have h2 := Int.emod_add_mul_ediv b m
      have : a * (n : Int) = (a % m) * n + m * (a / m * n) := by
        rw [← Int.mul_assoc, ← Int.add_mul, h1]
      rw [this, Int.mul_add]
      omega
    rw [e, Int.add_mul_ediv_left _ _ (by omega), show ((n + 1 : Nat) : Int) = (n : Int) + 1 by omega, Int.mul_add, Int.mul_add]
    omega
/-- rows and columns change places -/
theorem fs_swap {a b m : Int} (a0 : 0 < a) (am : a < m) (b0 : 0 ≤ b) (bm : b < m) : ∀ n : Nat, fs a b m n = fs m ((a * n + b) % m) a ((a * n + b) / m).toNat := by
  have m0 : 0 < m := by omega
  -- the other side, told from its end
  have other : ∀ (c : Int) (k : Nat), c / m = k → fs m (c % m) a k = sf (fun j => (c - m * (j + 1)) / a) k := fun c k hk => by
    unfold fs
    rw [sf_rev]
    refine sf_congr fun i hi => ?_
    congr 1
    have h1 := Int.emod_add_mul_ediv c m
    rw [hk] at h1
    have e1 : ((k - 1 - i : Nat) : Int) = (k : Int) - (i + 1) := by omega
    rw [e1, Int.mul_sub]
    omega
  intro n
  have c0 : ∀ n : Nat, 0 ≤ a * n + b := fun n => by
    have := Int.mul_nonneg (show 0 ≤ a by omega) (show (0 : Int) ≤ n by omega)
    omega
  have kn : ∀ n : Nat, (a * n + b) / m = (((a * n + b) / m).toNat : Int) := fun n => by
    have := Int.ediv_nonneg (c0 n) (show 0 ≤ m by omega)
    omega
  rw [other _ _ (kn n)]
  induction n with
  | zero =>
    show 0 = _
    rw [show (a * ((0 : Nat) : Int) + b) / m = 0 by rw [show a * ((0 : Nat) : Int) = 0 from Int.mul_zero a, Int.zero_add]; exact Int.ediv_eq_zero_of_lt b0 bm]
    rfl
  | succ n ih =>
    rw [fs_succ, ih]
    have e : a * ((n + 1 : Nat) : Int) + b = a * n + b + a := by
      rw [show ((n + 1 : Nat) : Int) = (n : Int) + 1 by omega, Int.mul_add]
      omega
    rw [e]
    have kk := kn n
    have cc := c0 n
    generalize a * (n : Int) + b = c at *
    obtain ⟨k, hk⟩ : ∃ k : Nat, c / m = k := ⟨_, kk⟩
    have ek : (c / m).toNat = k := by omega
    rw [ek, hk]
    have up : sf (fun j => (c + a - m * ((j : Int) + 1)) / a) k = sf (fun j => (c - m * ((j : Int) + 1)) / a) k + k := by
      rw [sf_congr (g := fun j => (c - m * ((j : Int) + 1)) / a + 1) fun i _ => by
        show (c + a - m * ((i : Int) + 1)) / a = (c - m * ((i : Int) + 1)) / a + 1
        rw [show c + a - m * ((i : Int) + 1) = c - m * ((i : Int) + 1) + a * 1 by omega, Int.add_mul_ediv_left _ _ (by omega)], sf_add, sf_one]
    have h1 := Int.emod_add_mul_ediv c m
    have h2 := Int.emod_nonneg c (show m ≠ 0 by omega)
    have h3 := Int.emod_lt_of_pos c m0
    rw [hk] at h1
    have fix : ∀ r : Int, 0 ≤ r → r < m → ∀ q : Int, c + a = r + m * q → (c + a) / m = q := fun r r0 r1 q e => by
      rw [e, Int.add_mul_ediv_left _ _ (by omega), Int.ediv_eq_zero_of_lt r0 r1, Int.zero_add]
    by_cases z : c % m + a < m
    · rw [fix (c % m + a) (by omega) z k (by omega), show ((k : Int)).toNat = k by omega, up]
    · have e2 : c + a = c % m + a - m + m * ((k : Int) + 1) := by
        rw [Int.mul_add]
        omega
      rw [fix _ (by omega) (by omega) _ e2, show ((k : Int) + 1).toNat = k + 1 by omega]
      show _ = sf (fun j => (c + a - m * ((j : Int) + 1)) / a) k + (c + a - m * ((k : Int) + 1)) / a
      rw [up, show c + a - m * ((k : Int) + 1) = c % m + a - m by omega, Int.ediv_eq_zero_of_lt (by omega) (by omega), Int.add_zero]
theorem fs_zero {g m : Int} (g0 : 0 ≤ g) (gm : g < m) : ∀ n : Nat, fs 0 g m n = 0
  | 0 => rfl
  | n + 1 => by
    rw [fs_succ, fs_zero g0 gm n, Int.zero_mul, Int.zero_add, Int.zero_add]
    exact Int.ediv_eq_zero_of_lt g0 gm
/-- one turn of the loop -/
theorem fs_turn {a b m n : Int} (m0 : 0 < m) (n0 : 0 ≤ n) :
    fs a b m n.toNat = a / m * (n * (n - 1) / 2) + b / m * n + fs m ((a % m * n + b % m) % m) (a % m) ((a % m * n + b % m) / m).toNat ∧ 0 ≤ (a % m * n + b % m) / m ∧ (a % m * n + b % m) / m ≤ n ∧ (0 < (a % m * n + b % m) / m → 0 < a % m) := by
  have f0 := Int.emod_nonneg a (show m ≠ 0 by omega)
  have f1 := Int.emod_lt_of_pos a m0
  have g0 := Int.emod_nonneg b (show m ≠ 0 by omega)
  have g1 := Int.emod_lt_of_pos b m0
  have en : ((n.toNat : Nat) : Int) = n := by omega
  have red := fs_red (a := a) (b := b) m0 n.toNat
  unfold tri at red
  rw [en] at red
  rw [red]
  generalize a % m = f at *
  generalize b % m = g at *
  have fn0 := Int.mul_nonneg f0 n0
  refine ⟨?_, Int.ediv_nonneg (by omega) (by omega), ?_, fun h => ?_⟩
  · congr 1
    by_cases z : f = 0
    · subst z
      rw [fs_zero g0 g1, Int.zero_mul, Int.zero_add, Int.ediv_eq_zero_of_lt g0 g1]
      rfl
    · have := fs_swap (a := f) (b := g) (m := m) (by omega) f1 g0 g1 n.toNat
      rwa [en] at this
  · have h1 : f * n ≤ (m - 1) * n := Int.mul_le_mul_of_nonneg_right (by omega) n0
    rw [Int.sub_mul, Int.one_mul] at h1
    have h2 : f * n + g < (n + 1) * m := by
      rw [Int.add_mul, Int.one_mul, Int.mul_comm n m]
      omega
    have := Int.ediv_lt_of_lt_mul m0 h2
    omega
  · by_cases z : f = 0
    · subst z
      rw [Int.zero_mul, Int.zero_add, Int.ediv_eq_zero_of_lt g0 g1] at h
      omega
    · omega
/-- one number, in a span of a period or not -/
theorem span_floor {x p lo hi : Int} (p0 : 0 < p) (h0 : 0 ≤ lo) (h1 : lo ≤ hi) (h2 : hi < p) : (x - lo) / p - (x - hi - 1) / p = if lo ≤ x % p ∧ x % p ≤ hi then 1 else 0 := by
  have h3 := Int.emod_add_mul_ediv x p
  have h4 := Int.emod_nonneg x (show p ≠ 0 by omega)
  have h5 := Int.emod_lt_of_pos x p0
  generalize x % p = r at *
  generalize x / p = q at *
  have key : ∀ y : Int, -p ≤ y → y < p → (y + p * q) / p = q + if 0 ≤ y then 0 else -1 := fun y y0 y1 => by
    rw [Int.add_mul_ediv_left _ _ (by omega)]
    by_cases z : 0 ≤ y
    · rw [if_pos z, Int.ediv_eq_zero_of_lt z y1]
      omega
    · rw [if_neg z]
      have : y / p = -1 := by
        rw [show y = (y + p) + p * (-1) by omega, Int.add_mul_ediv_left _ _ (by omega), Int.ediv_eq_zero_of_lt (by omega) (by omega)]
        rfl
      rw [this]
      omega
  rw [show x - lo = r - lo + p * q by omega, show x - hi - 1 = r - hi - 1 + p * q by omega, key _ (by omega) (by omega), key _ (by omega) (by omega)]
  split <;> split <;> split <;> omega
end Kx

set_option Elab.async false
set_option linter.all false
set_option maxRecDepth 100000
set_option maxHeartbeats 4000000
namespace Kx
/-! ### how many indexes fall into a piece, and the first of them -/
theorem ind_sum {p : Int} {r : Int} : ∀ {sp : List (Int × Int)}, SpOk p sp → (sp.map fun s => if s.1 ≤ r ∧ r ≤ s.2 then (1 : Int) else 0).sum = bI (spB sp r)
  | [], _ => rfl
  | s :: sp, k => by
    obtain ⟨a1, a2⟩ := List.pairwise_cons.mp k.asc
    have ih := ind_sum (r := r) (sp := sp) ⟨k.pos, fun t ht => k.rng t (List.mem_cons_of_mem _ ht), a2⟩
    rw [List.map_cons, List.sum_cons, ih, spB_cons]
    by_cases c : s.1 ≤ r ∧ r ≤ s.2
    · have e : spB sp r = false := by
        cases q : spB sp r with
        | false => rfl
        | true =>
          obtain ⟨t, ht, h1, _⟩ := spB_iff.mp q
          have := a1 t ht
          omega
      rw [if_pos c, e, decide_eq_true c.1, decide_eq_true c.2]
      rfl
    · rw [if_neg c]
      have : (decide (s.1 ≤ r) && decide (r ≤ s.2)) = false := by
        rw [Bool.and_eq_false_iff]
        by_cases z : s.1 ≤ r
        · exact .inr (decide_eq_false fun y => c ⟨z, y⟩)
        · exact .inl (decide_eq_false z)
      rw [this, Bool.false_or, Int.zero_add]
theorem sum_split {α : Type} (f g : α → Int) : ∀ l : List α, (l.map fun x => f x + g x).sum = (l.map f).sum + (l.map g).sum
  | [] => rfl
  | x :: l => by
    rw [List.map_cons, List.map_cons, List.map_cons, List.sum_cons, List.sum_cons, List.sum_cons, sum_split f g l]
    omega
theorem sum_nil0 {α : Type} : ∀ l : List α, (l.map fun _ => (0 : Int)).sum = 0
  | [] => rfl
  | _ :: l => by rw [List.map_cons, List.sum_cons, sum_nil0 l]; rfl
theorem span_count {p : Int} {sp : List (Int × Int)} (k : SpOk p sp) (a c : Int) : ∀ n : Nat, (sp.map fun s => fs a (c - s.1) p n - fs a (c - s.2 - 1) p n).sum = cnt (fun i => spB sp ((a * i + c) % p)) n
  | 0 => sum_nil0 sp
  | n + 1 => by
    rw [cnt_succ, ← span_count k a c n, ← ind_sum k, ← sum_split]
    congr 1
    refine List.map_congr_left fun s hs => ?_
    obtain ⟨r1, r2, r3⟩ := k.rng s hs
    rw [fs_succ, fs_succ, ← span_floor (x := a * n + c) k.pos r1 r2 r3, show a * (n : Int) + (c - s.1) = a * n + c - s.1 by omega, show a * (n : Int) + (c - s.2 - 1) = a * n + c - s.2 - 1 by omega]
    omega
/-- the first index of a piece -/
def loI (q : Pc) (s : Int) : Int := -(-q.lo / s)
theorem lo_iff {q : Pc} {s i : Int} (s0 : 0 < s) : q.lo ≤ i * s ↔ loI q s ≤ i := by
  have := Int.le_ediv_iff_mul_le (a := -i) (b := -q.lo) s0
  rw [Int.neg_mul] at this
  unfold loI
  constructor
  · intro h
    have := this.mpr (by omega)
    omega
  · intro h
    have := this.mp (by omega)
    omega
theorem hi_iff {g s i : Int} (s0 : 0 < s) : i * s ≤ g ↔ i ≤ g / s := (Int.le_ediv_iff_mul_le s0).symm
/-- and the last one that is asked -/
def hiI (q : Pc) (s : Int) (many : Option Int) : Int := match q.hi, many with
  | none, none => loI q s + q.per - 1
  | some g, none => g / s
  | none, some m => m - 1
  | some g, some m => if g / s < m - 1 then g / s else m - 1
def strB (ps : List Pc) (s : Int) (many : Option Int) (i : Int) : Bool := hasB ps (i * s) && (match many with | none => true | some m => decide (i < m))
theorem lo_nn {q : Pc} (k : PcOk q) {s : Int} (s0 : 0 < s) : 0 ≤ loI q s := by
  have := (lo_iff (q := q) (i := loI q s) s0).mpr (Int.le_refl _)
  have := k.lo
  refine Classical.byContradiction fun c => ?_
  have : loI q s * s ≤ (-1) * s := Int.mul_le_mul_of_nonneg_right (by omega) (by omega)
  omega
/-- between them the spans alone tell -/
theorem in_between {q : Pc} (k : PcOk q) {s i : Int} {many : Option Int} (s0 : 0 < s) (h1 : loI q s ≤ i) (h2 : i ≤ hiI q s many) : inB q (i * s) = spB q.sp (i * s % q.per) := by
  have l := (lo_iff (q := q) s0).mpr h1
  have h : ∀ g, q.hi = some g → i * s ≤ g := fun g hg => by
    refine (hi_iff s0).mpr ?_
    unfold hiI at h2
    rw [hg] at h2
    cases many with
    | none => exact h2
    | some m =>
      dsimp only at h2
      split at h2 <;> omega
  rw [Bool.eq_iff_iff, inB_iff]
  exact ⟨fun z => z.2.2, fun z => ⟨l, h, z⟩⟩
theorem below_many {q : Pc} {s i m : Int} (h2 : i ≤ hiI q s (some m)) : i < m := by
  unfold hiI at h2
  cases hh : q.hi with
  | none => rw [hh] at h2; dsimp only at h2; omega
  | some g => rw [hh] at h2; dsimp only at h2; split at h2 <;> omega
/-- who is in the piece is between them, or one is ahead of it -/
theorem some_between {q : Pc} (k : PcOk q) {s i : Int} {many : Option Int} (s0 : 0 < s) (h : inB q (i * s) = true) (hm : ∀ m, many = some m → i < m) : ∃ j, loI q s ≤ j ∧ j ≤ hiI q s many ∧ j ≤ i ∧ spB q.sp (j * s % q.per) = true := by
  obtain ⟨h1, h2, h3⟩ := inB_iff.mp h
  have l := (lo_iff (q := q) s0).mp h1
  have p0 := k.sp.pos
  unfold hiI
  cases hh : q.hi with
  | some g =>
    have := (hi_iff s0).mp (h2 g hh)
    refine ⟨i, l, ?_, Int.le_refl _, h3⟩
    cases many with
    | none => exact this
    | some m =>
      have := hm m rfl
      dsimp only
      split <;> omega
  | none =>
    cases many with
    | some m => exact ⟨i, l, by have := hm m rfl; dsimp only; omega, Int.le_refl _, h3⟩
    | none =>
      have e1 := Int.emod_add_mul_ediv (i - loI q s) q.per
      have e2 := Int.emod_nonneg (i - loI q s) (show q.per ≠ 0 by omega)
      have e3 := Int.emod_lt_of_pos (i - loI q s) p0
      have e4 := Int.ediv_nonneg (show 0 ≤ i - loI q s by omega) (show 0 ≤ q.per by omega)
      have e5 := Int.mul_nonneg (show 0 ≤ q.per by omega) e4
      refine ⟨loI q s + (i - loI q s) % q.per, by omega, by dsimp only; omega, by omega, ?_⟩
      have : i * s = (loI q s + (i - loI q s) % q.per) * s + q.per * ((i - loI q s) / q.per * s) := by
        rw [← Int.mul_assoc, ← Int.add_mul]
        congr 1
        omega
      rw [this, Int.add_mul_emod_self_left] at h3
      exact h3
def NoneIn (q : Pc) (s : Int) (many : Option Int) : Prop := ∀ j, loI q s ≤ j → j ≤ hiI q s many → spB q.sp (j * s % q.per) = false
theorem none_piece {q : Pc} (k : PcOk q) {s i : Int} {many : Option Int} (s0 : 0 < s) (h : NoneIn q s many) (hm : ∀ m, many = some m → i < m) : inB q (i * s) = false := by
  cases e : inB q (i * s) with
  | false => rfl
  | true =>
    obtain ⟨j, j1, j2, _, j3⟩ := some_between k s0 e hm
    rw [h j j1 j2] at j3
    cases j3
theorem str_iff {ps : List Pc} {s i : Int} {many : Option Int} : strB ps s many i = true ↔ hasB ps (i * s) = true ∧ ∀ m, many = some m → i < m := by
  unfold strB
  rw [Bool.and_eq_true]
  refine and_congr_right fun _ => ?_
  cases many with
  | none => exact ⟨fun _ m e => (by cases e), fun _ => rfl⟩
  | some m => exact ⟨fun h m' e => by cases e; exact of_decide_eq_true h, fun h => decide_eq_true (h m rfl)⟩
theorem stride_none {ps : List Pc} {s : Int} {many : Option Int} (s0 : 0 < s) (h : ∀ q ∈ ps, PcOk q ∧ NoneIn q s many) : IsNext (strB ps s many) 0 none := fun y _ => by
  cases e : strB ps s many y with
  | false => rfl
  | true =>
    obtain ⟨e1, e2⟩ := str_iff.mp e
    obtain ⟨q, hq, e3⟩ := hasB_iff.mp e1
    obtain ⟨k, n⟩ := h q hq
    rw [none_piece k s0 n e2] at e3
    cases e3
theorem stride_some {pre post : List Pc} {q : Pc} {s j : Int} {many : Option Int} (s0 : 0 < s) (K : PsOk (pre ++ q :: post)) (h : ∀ r ∈ pre, NoneIn r s many) (j1 : loI q s ≤ j) (j2 : j ≤ hiI q s many) (j3 : spB q.sp (j * s % q.per) = true)
    (least : ∀ i, loI q s ≤ i → i < j → spB q.sp (i * s % q.per) = false) : IsNext (strB (pre ++ q :: post) s many) 0 (some j) := by
  have kq := K.ok q (by simp)
  have inq : inB q (j * s) = true := by rw [in_between kq s0 j1 j2]; exact j3
  have jm : ∀ m, many = some m → j < m := fun m e => by subst e; exact below_many j2
  refine ⟨by have := lo_nn kq s0; omega, str_iff.mpr ⟨hasB_iff.mpr ⟨q, by simp, inq⟩, jm⟩, fun y y0 y1 => ?_⟩
  cases e : strB (pre ++ q :: post) s many y with
  | false => rfl
  | true =>
    exfalso
    obtain ⟨e1, e2⟩ := str_iff.mp e
    obtain ⟨r, hr, e3⟩ := hasB_iff.mp e1
    rcases List.mem_append.mp hr with hr | hr
    · rw [none_piece (K.ok r (by simp [hr])) s0 (h r hr) e2] at e3
      cases e3
    · rcases List.mem_cons.mp hr with hr | hr
      · subst hr
        obtain ⟨i, i1, _, i3, i4⟩ := some_between kq s0 e3 e2
        rw [least i i1 (by omega)] at i4
        cases i4
      · obtain ⟨_, a2, _⟩ := List.pairwise_append.mp K.asc
        obtain ⟨g, hg, lt⟩ := (List.pairwise_cons.mp a2).1 r hr
        have b1 := (inB_iff.mp inq).2.1 g hg
        have b2 := (inB_iff.mp e3).1
        have : y * s ≤ j * s := Int.mul_le_mul_of_nonneg_right (by omega) (by omega)
        omega
end Kx

set_option Elab.async false
set_option linter.all false
set_option maxRecDepth 100000
set_option maxHeartbeats 2000000
/-! texts: methods, slices, what is walked sign by sign -/
namespace HX
open PySem PySem.Spec PyProof.Rows L2 TL
def rSw : V → List V → Hp → VK → Prop := fun x xs H Q => ∃ a b, x = .str a ∧ xs = [.str b] ∧ Q (.bl (Txt.startswith a b)) H
def rFnd : V → List V → Hp → VK → Prop := fun x xs H Q => ∃ a b, x = .str a ∧ xs = [.str b] ∧ Q (.int (Txt.find a b)) H
def rPrt : V → List V → Hp → VK → Prop := fun x xs H Q => ∃ a b, x = .str a ∧ xs = [.str b] ∧ (b.length == 0) = false ∧ a.length ≤ sizeLine ∧ ∀ p, H p = none → Q (.ref p) (upd H p (.tup [.str (Txt.partition a b).1, .str (Txt.partition a b).2.1, .str (Txt.partition a b).2.2]))
def rSpl : V → List V → Hp → VK → Prop := fun x xs H Q => ∃ a b, x = .str a ∧ xs = [.str b] ∧ (b.length == 0) = false ∧ a.length + 2 ≤ sizeLine ∧ rNewStrs (Txt.split a b) H Q
def rJoi (K : PySem.W.Frag) : V → List V → Hp → VK → Prop := fun x xs H Q => ∃ a p, ∃ ys : List Str, x = .str a ∧ xs = [.ref p] ∧ (SqL K H p (ys.map V.str) ∨ SqT K H p (ys.map V.str)) ∧ (ys.map (·.length)).sum + ys.length * a.length ≤ 16777216 ∧ Q (.str (Txt.join a ys)) H
def rLenS : List V → Hp → VK → Prop := fun xs H Q => ∃ z, xs = [.str z] ∧ z.length ≤ sizeLine ∧ Q (.int z.length) H
def rIntS : List V → Hp → VK → Prop := fun xs H Q => ∃ a n, xs = [.str a] ∧ PySem.intText? a = some n ∧ a.length ≤ 640 ∧ Q (.int n) H
def rStrI : List V → Hp → VK → Prop := fun xs H Q => ∃ i : Int, xs = [.int i] ∧ i.natAbs.log2 < 1920 ∧ Q (.str (toString i)) H
def rAllB (K : PySem.W.Frag) : List V → Hp → VK → Prop := fun vs H Q => ∃ (a : Addr) (bs : List Bool), vs = [V.ref a] ∧ SqL K H a (bs.map V.bl) ∧ Q (.bl (bs.all id)) H
def rSgn : R2 := fun x y H Q => ∃ (c : Nat) (z : Str), x = .str ⟨#[c]⟩ ∧ y = .str z ∧ Q (.bl (decide (c ∈ z.cps.toList))) H
def rNsg : R2 := fun x y H Q => ∃ (c : Nat) (z : Str), x = .str ⟨#[c]⟩ ∧ y = .str z ∧ Q (.bl (!decide (c ∈ z.cps.toList))) H
def rAddS : R2 := fun x y H Q => ∃ i j : Str, x = .str i ∧ y = .str j ∧ i.length + j.length ≤ sizeLine ∧ Q (.str (i ++ j)) H
section
variable {X : Cx}
theorem mt_sw : MtR X "str.startswith" rSw := mt_startswith
theorem mt_fnd : MtR X "str.find" rFnd := mt_find
theorem mt_prt : MtR X "str.partition" rPrt := mt_partition
theorem mt_spl : MtR X "str.split" rSpl := mt_split
theorem mt_joi : MtR X "str.join" (rJoi X.K) := mt_join
theorem call_lenS : CallR X (.builtin "len") rLenS := call_len_str
theorem call_intS : CallR X (.type "int") rIntS := call_int_str
theorem call_strI : CallR X (.type "str") rStrI := call_str_int
theorem call_allB (h : X.calm = true) : CallR X (.builtin "all") (rAllB X.K) := cr_all h
theorem op_sgn : OpR X (compareOp .In) rSgn := op_in_sign
theorem op_nsg : OpR X (compareOp .NotIn) rNsg := op_notIn_sign
theorem op_addS : OpR X (binaryOp .Add) rAddS := op_add_str
end
section
variable {K : PySem.W.Frag} {H : Hp} {Q : VK} {σ : L2.St} {to te : TE} {a b z : Str} {r : V → List V → Hp → VK → Prop} {lo hi : Option Int} {c : Nat}
theorem go_m1 (h : to σ H fun x H1 => (∃ a, x = .str a) ∧ te σ H1 fun y H2 => r x [y] H2 Q) : tM1 r to te σ H Q := h
theorem go_isS {P : Prop} (k : P) : (∃ b, V.str a = .str b) ∧ P := ⟨⟨a, rfl⟩, k⟩
theorem go_rSw (q : Q (.bl (Txt.startswith a b)) H) : rSw (.str a) [.str b] H Q := ⟨a, b, rfl, rfl, q⟩
theorem go_rFnd (q : Q (.int (Txt.find a b)) H) : rFnd (.str a) [.str b] H Q := ⟨a, b, rfl, rfl, q⟩
theorem go_rPrt (h1 : (b.length == 0) = false) (h2 : a.length ≤ sizeLine) (q : ∀ p, H p = none → Q (.ref p) (upd H p (.tup [.str (Txt.partition a b).1, .str (Txt.partition a b).2.1, .str (Txt.partition a b).2.2]))) : rPrt (.str a) [.str b] H Q := ⟨a, b, rfl, rfl, h1, h2, q⟩
theorem go_rSpl (h1 : (b.length == 0) = false) (h2 : a.length + 2 ≤ sizeLine) (q : ∀ p, H p = none → Q (.ref p) (upd H p (.lst ((Txt.split a b).map V.str)))) : rSpl (.str a) [.str b] H Q := ⟨a, b, rfl, rfl, h1, h2, q⟩
theorem go_rJoi {p : Addr} {ys : List Str} (h1 : Rd H p (.lst (ys.map V.str))) (h2 : (ys.map (·.length)).sum + ys.length * a.length ≤ 16777216) (q : Q (.str (Txt.join a ys)) H) : rJoi K (.str a) [.ref p] H Q := ⟨a, p, ys, rfl, rfl, .inl (.inl h1), h2, q⟩
theorem go_rLenS (h : z.length ≤ sizeLine) (q : Q (.int z.length) H) : rLenS [.str z] H Q := ⟨z, rfl, h, q⟩
theorem go_rIntS {n : Int} (h1 : PySem.intText? a = some n) (h2 : a.length ≤ 640) (q : Q (.int n) H) : rIntS [.str a] H Q := ⟨a, n, rfl, h1, h2, q⟩
theorem go_rStrI {i : Int} (h : i.natAbs.log2 < 1920) (q : Q (.str (toString i)) H) : rStrI [.int i] H Q := ⟨i, rfl, h, q⟩
theorem go_rAllB {p : Addr} {bs : List Bool} (h : Rd H p (.lst (bs.map V.bl))) (q : Q (.bl (bs.all id)) H) : rAllB K [.ref p] H Q := ⟨p, bs, rfl, .inl h, q⟩
theorem go_sgn (q : Q (.bl (decide (c ∈ z.cps.toList))) H) : rSgn (.str ⟨#[c]⟩) (.str z) H Q := ⟨c, z, rfl, rfl, q⟩
theorem go_nsg (q : Q (.bl (!decide (c ∈ z.cps.toList))) H) : rNsg (.str ⟨#[c]⟩) (.str z) H Q := ⟨c, z, rfl, rfl, q⟩
theorem go_rAddS (h : a.length + b.length ≤ sizeLine) (q : Q (.str (a ++ b)) H) : rAddS (.str a) (.str b) H Q := ⟨a, b, rfl, rfl, h, q⟩
theorem go_slS (h : z.length ≤ sizeLine) (q : Q (.str (L2.cutS z lo hi)) H) : rSlS (.str z) lo hi H Q := ⟨z, rfl, h, q⟩
theorem go_ixS {i : Int} (h : z.length ≤ sizeLine) (hi : atI z.cps.toList i = some c) (q : Q (.str ⟨#[c]⟩) H) : rIxS (.str z) (.int i) H Q := ⟨z, i, c, rfl, rfl, h, hi, q⟩
end
/-- str(x) of an int or None -/
def rStrO : List V → Hp → VK → Prop := fun xs H Q => (∃ i : Int, xs = [.int i] ∧ i.natAbs.log2 < 1920 ∧ Q (.str (toString i)) H) ∨ (xs = [.non] ∧ Q (.str "None") H)
theorem call_strO {X : Cx} : CallR X (.type "str") rStrO := by
  intro pins s σ H xs us Q I r h
  rcases h with ⟨i, rfl, hz, q⟩ | ⟨rfl, q⟩
  · exact call_strI pins s σ H _ us Q I r ⟨i, rfl, hz, q⟩
  · obtain ⟨u, rfl, ru⟩ := vals1 r
    cases ru
    exact PySem.P.str_of_none ⟨.str _, H, I.tok _, ⟨_, rfl⟩, q⟩
def rMulS : R2 := fun x y H Q => ∃ (a : Str) (k : Int), x = .str a ∧ y = .int k ∧ PySem.MulOk a k ∧ Q (.str (Txt.mul a k)) H
theorem op_mulS {X : Cx} : OpR X (binaryOp .Mult) rMulS := by
  intro pins s σ H x y v u Q I rx ry h
  obtain ⟨a, k, rfl, rfl, hk, q⟩ := h
  obtain ⟨t, rfl⟩ := rx
  obtain ⟨t', rfl⟩ := ry
  exact PySem.SB.mul hk fun t' tk => ⟨.str _, H, I.tok _, ⟨_, rfl⟩, q⟩
theorem go_mulS {a : Str} {k : Int} {H : Hp} {Q : VK} (h : PySem.MulOk a k) (q : Q (.str (Txt.mul a k)) H) : rMulS (.str a) (.int k) H Q := ⟨a, k, rfl, rfl, h, q⟩
theorem go_par3 {i j l : Nat} {ta : TA} {D : Ends} {σ : L2.St} {H : Hp} (h : ta σ H fun vs H1 => ∃ u v w, vs = [u, v, w] ∧ D.nx (((σ.set i (some u)).set j (some v)).set l (some w)) H1) : tPar3 i j l ta D σ H := h
theorem go_three {P : V → V → V → Prop} {x y z : V} (h : P x y z) : ∃ u v w, [x, y, z] = [u, v, w] ∧ P u v w := ⟨x, y, z, rfl, h⟩
/-! a comprehension over a text -/
def lcS (x : Str) (g : TG) (tt : TT) (te : TE) (vs : List Nat) : TE := tLc (fun _ H R => R (Its x) H) g tt te vs
section
variable {H : Hp} {Q : VK} {σ : L2.St} {tl te : TE} {tt : TT} {g : TG} {vs : List Nat} {x : Str}
theorem go_lcS (h : tl σ H fun v H1 => ∃ x, v = .str x ∧ lcS x g tt te vs σ H1 Q) : tLc (iStr tl) g tt te vs σ H Q := h
theorem run_lcS (Pv : Addr → Nat → Hp → Prop) (h0 : ∀ D, H D = none → Pv D 0 (upd H D (.lst [])))
    (hs : ∀ D i c H, (TL.tl x)[i]? = some c → Pv D i H → g (.str ⟨#[c]⟩) (wipe σ vs) H fun σ2 H2 => wipe σ2 vs = wipe σ vs ∧ tt σ2 H2 fun b H3 =>
      if b = true then te σ2 H3 fun y H4 => ∃ acc, H4 D = some (.lst acc) ∧ acc.length < sizeLine ∧ Pv D (i + 1) (upd H4 D (.lst (acc ++ [y]))) else Pv D (i + 1) H3) (hd : ∀ D H', H D = none → Pv D (TL.tl x).length H' → Q (.ref D) H') : lcS x g tt te vs σ H Q := by
  intro D hD
  refine ⟨fun i m H => m = x.cps.size - i ∧ i ≤ x.cps.size ∧ Pv D i H, ⟨x.cps.size, by simp, Nat.zero_le _, h0 D hD⟩, ?_⟩
  rintro i m H' ⟨rfl, hi, p⟩
  by_cases hlt : i < x.cps.size
  · refine .inr ⟨hlt, Pv D (i + 1), fun H' p' => ⟨x.cps.size - (i + 1), by omega, rfl, hlt, p'⟩, fun v H2 y => ?_⟩
    obtain ⟨rfl, c, hc, rfl⟩ := y
    exact hs D i c _ (by rw [← hc]; exact Array.getElem?_toList) p
  · obtain rfl : i = x.cps.size := by omega
    exact .inl ⟨Nat.le_refl _, hd D H' hD (by rw [show (TL.tl x).length = x.cps.size from Array.length_toList]; exact p)⟩
end
end HX

set_option Elab.async false
set_option linter.all false
set_option maxRecDepth 100000
set_option maxHeartbeats 4000000

namespace Kx
open PySem PySem.Spec PyProof.Rows L2 HX
open Evl (Ex)
local macro_rules | `(tactic| walk_at "side") => `(tactic| first | assumption | ((try dsimp only); first | assumption | decide +kernel | omega | exact ⟨by decide, by decide⟩ | (left; decide) | (left; omega) | (refine Or.inl ⟨?_, ?_⟩ <;> omega) | (refine Or.inr ⟨?_, ?_⟩ <;> omega)))
local macro_rules | `(tactic| walk_at "heap") => `(tactic| first | assumption | exact upd_same | exact Or.inl (by assumption) | exact Or.inl upd_same)
local macro_rules | `(tactic| walk_at "item") => `(tactic| first | exact rfl | exact atI_nat (j := 0) rfl | exact atI_nat (j := 1) rfl | exact atI_nat (j := 2) rfl | assumption)
local macro_rules | `(tactic| walk_at "rd") => `(tactic| repeat (first
  | ((with_reducible refine' go_var ?hv ?_); (case hv => exact rfl))
  | with_reducible refine' go_c ?_
  | with_reducible refine' go_op ?_
  | with_reducible refine' go_seq ?_
  | with_reducible refine' go_asg ?_
  | with_reducible refine' go_name ?_
  | with_reducible refine' go_cons ?_
  | with_reducible refine' go_nil ?_
  | with_reducible refine' go_cb ?_
  | with_reducible refine' go_call ?_
  | with_reducible refine' go_ifS ?_
  | with_reducible refine' go_test ?_
  | with_reducible refine' go_bl ?_
  | with_reducible refine' go_ret ?_
  | with_reducible refine' go_I0 ?_
  | ((with_reducible refine' go_I ?cc ?_); (case cc => walk_at "side"))
  | ((with_reducible refine' go_ixL ?hh ?hk ?_); (case hh => walk_at "heap"); (case hk => walk_at "item"))
  | ((with_reducible refine' go_ixT ?hh ?hk ?_); (case hh => walk_at "heap"); (case hk => walk_at "item"))
  | ((with_reducible refine' go_lenL ?hh ?_); (case hh => walk_at "heap"))
  | ((with_reducible refine' go_lenT ?hh ?_); (case hh => walk_at "heap"))
  | ((with_reducible refine' go_setL ?hh ?hk ?_); (case hh => walk_at "heap"); (case hk => walk_at "item"))
  | with_reducible refine' go_abs ?_
  | with_reducible refine' go_max ?_
  | with_reducible refine' go_min ?_
  | with_reducible refine' go_int ?_
  | with_reducible refine' go_intB ?_
  | (with_reducible refine' go_eq rfl ?_)
  | (with_reducible refine' go_ne rfl ?_)
  | with_reducible refine' go_isN ?_
  | with_reducible refine' go_notN ?_
  | with_reducible refine' go_if ?_
  | with_reducible refine' go_sub ?_
  | with_reducible refine' go_par ?_
  | with_reducible refine' go_sl ?_
  | with_reducible refine' go_part ?_
  | with_reducible refine' go_pint ?_
  | with_reducible refine' go_nopart ?_
  | ((with_reducible refine' go_lenL ?hh ?_); (case hh => walk_at "heap"))
  | ((with_reducible refine' go_lenT ?hh ?_); (case hh => walk_at "heap"))
  | ((with_reducible refine' go_lenS ?hh ?_); (case hh => assumption))
  | with_reducible refine' go_gcons ?_
  | with_reducible refine' go_gnil ?_
  | with_reducible refine' go_kw ?_
  | with_reducible refine' go_par2 ?_
  | with_reducible refine' go_next ?_
  | with_reducible refine' go_drop ?_
  | with_reducible refine' go_and ?_
  | with_reducible refine' go_or ?_
  | with_reducible refine' go_not ?_
  | with_reducible refine' go_B ?_
  | with_reducible refine' go_andV ?_
  | with_reducible refine' go_orV ?_
  | with_reducible refine' go_notV ?_
  | with_reducible refine' go_chain ?_
  | with_reducible refine' go_un ?_
  | with_reducible refine' go_U ?_
  | with_reducible refine' go_bm ?_
  | with_reducible refine' go_tup ?_
  | with_reducible refine' go_lst ?_
  | with_reducible refine' go_forR1 ?_
  | with_reducible refine' go_forR2 ?_
  | with_reducible refine' go_forL ?_
  | with_reducible refine' go_forT ?_
  | with_reducible refine' go_forE ?_
  | with_reducible refine' go_lcR1 ?_
  | with_reducible refine' go_lcL ?_
  | with_reducible refine' go_lcT ?_
  | ((with_reducible refine' go_tyL ?hh ?_); (case hh => walk_at "heap"))
  | ((with_reducible refine' go_new ?hz ?_); (case hz => exact Nat.le_of_ble_eq_true rfl))
  | (with_reducible refine' ⟨_, rfl, ?_⟩)
  ))
--MACEND
theorem go_augI {i : Nat} {a : Int} {te : TE} {g : Int → Int → Int} {D : Ends} {σ : L2.St} {H : Hp} (hx : σ[i]? = some (some (.int a))) (h : te σ H fun y H1 => ipI g (.int a) y H1 fun z H2 => D.nx (σ.set i (some z)) H2) : tAug i te (ipI g) D σ H := ⟨_, hx, h⟩
theorem divp_near {i j : Int} (hj : 0 < j) (h : i.natAbs < j.natAbs * 2 ^ 3900) : CDivP i j := divp_ok hj (by
  have h1 : j.natAbs < 2 ^ (j.natAbs.log2 + 1) := Nat.lt_log2_self
  have h2 : i.natAbs < 2 ^ (j.natAbs.log2 + 1 + 3900) := by
    rw [Nat.pow_add]
    exact Nat.lt_trans h (Nat.mul_lt_mul_of_pos_right h1 (Nat.pow_pos (by decide)))
  have := PySem.Flt.log2_lt_of (by omega) h2
  unfold Builtin.Int.intBits
  rw [if_neg (show ¬ (j == 0) = true by simpa using (show j ≠ 0 by omega))]
  split <;> omega)
def spFS : Sp := fun vs H Q _ => ∃ n a b m : Int, vs = [.int n, .int a, .int b, .int m] ∧ 0 ≤ n ∧ n.natAbs < 2 ^ 3600 ∧ a.natAbs < 2 ^ 3600 ∧ b.natAbs < 2 ^ 3600 ∧ 0 < m ∧ m.natAbs < 2 ^ 3600 ∧ ∀ H', Ex H H' → Q (.int (fs a b m n.toNat)) H'
section
variable {P : Program} {w : World} {K : PySem.W.Frag} {mg : Str → Option Value} {base : Heap}
abbrev s_floor_sum : Stmt := top 51
theorem sc_floor_sum : FnScope ["many", "factor", "shift", "period", "total"] ["many", "factor", "shift", "period"] (defScope s_floor_sum) := ⟨rfl, rfl, rfl, by decide +kernel, rfl, by decide +kernel, by decide +kernel⟩
theorem ok_floor_sum {f : Addr} {fd : FuncData} (F : Fun K "floor_sum" "floor_sum" s_floor_sum f fd) (m_divmod : mg "divmod" = none) : FnOk P w K mg base CX0 1 f fd ["many", "factor", "shift", "period"] spFS := by
  refine F.ok sc_floor_sum (fun vs H Q E h => ?_) (fun cdv A outer s H vs Q E hr h => ?_)
  · obtain ⟨n, a, b, m, rfl, _⟩ := h
    rfl
  · obtain ⟨n, a, b, m, rfl, n0, nb, ab, bb, m0, mb, k⟩ := h
    refine ⟨_, (pss_cons (ps_set (i := 4) sc_floor_sum.nd rfl (Or.inl rfl) pe_int)
  (pss_cons (ps_while PassesOwn.never (pt_cmpR op_gt (pv 0) pe_int (nomark _))
  (pss_cons (ps_aug (i := 4) sc_floor_sum.nd rfl (.inl rfl) (pe_op op_add (pe_op op_mulW (pe_op op_fdivW (pv 1) (pv 3)) (pe_op op_fdiv (pe_op op_mulW (pv 0) (pe_op op_sub (pv 0) pe_int)) pe_int)) (pe_op op_mulW (pe_op op_fdivW (pv 2) (pv 3)) (pv 0))) ip_add)
  (pss_cons (ps_par (i := 1) (j := 2) (by rfl) sc_floor_sum.nd rfl rfl (by decide) rfl rfl (pa_cons (pe_op op_mod (pv 1) (pv 3)) (pa_cons (pe_op op_mod (pv 2) (pv 3)) pa_nil)) (by rfl))
  (pss_cons (ps_asg (pe_callB call_divmodW rfl m_divmod (by decide +kernel) (pa_cons (pe_op op_add (pe_op op_mulW (pv 1) (pv 0)) (pv 2)) (pa_cons (pv 3) pa_nil))) (pg_tup (by rfl) (pgs_cons (pg_name (i := 0) sc_floor_sum.nd rfl (Or.inl rfl)) (pgs_cons (pg_name (i := 2) sc_floor_sum.nd rfl (Or.inl rfl)) pgs_nil))))
  (pss_one (ps_par (i := 1) (j := 3) (by rfl) sc_floor_sum.nd rfl rfl (by decide) rfl rfl (pa_cons (pv 3) (pa_cons (pv 1) pa_nil)) (by rfl)))))))
  (pss_one (ps_ret (pv 4))))), ?_⟩
    obtain ⟨S, hS⟩ : ∃ S, S = fs a b m n.toNat := ⟨_, rfl⟩
    rw [← hS] at k
    walk_at "rd"
    refine ⟨fun μ σ G => ∃ (t n a b m : Int), μ = m.toNat ∧ σ = [some (.int n), some (.int a), some (.int b), some (.int m), some (.int t)] ∧ Ex H G ∧ 0 ≤ n ∧ n.natAbs < 2 ^ 3600 ∧ a.natAbs < 2 ^ 3600 ∧ b.natAbs < 2 ^ 3600 ∧ m.natAbs < 2 ^ 3600 ∧ (0 < n → 0 < m) ∧ t + fs a b m n.toNat = S,
      ⟨_, 0, n, a, b, m, rfl, rfl, Ex.refl _, n0, nb, ab, bb, mb, fun _ => m0, by rw [hS, Int.zero_add]⟩, ?_⟩
    clear n0 nb ab bb m0 mb hS
    rintro μ σ G ⟨t, n, a, b, m, rfl, rfl, eG, n0, nb, ab, bb, mb, nm, inv⟩
    walk_at "rd"
    by_cases np : n > 0
    rotate_left
    · rw [decide_eq_false np]
      refine iteF ?_
      walk_at "rd"
      have : n = 0 := by omega
      subst this
      have e : t = S := by rw [← inv]; show t = t + 0; omega
      rw [e]
      exact k _ eG
    · rw [decide_eq_true np]
      refine iteT ?_
      have m0 := nm np
      obtain ⟨t1, t2, t3, t4⟩ := fs_turn (a := a) (b := b) m0 n0
      have f0 := Int.emod_nonneg a (show m ≠ 0 by omega)
      have f1 := Int.emod_lt_of_pos a m0
      have g0 := Int.emod_nonneg b (show m ≠ 0 by omega)
      have g1 := Int.emod_lt_of_pos b m0
      have r1 := Int.emod_lt_of_pos (a % m * n + b % m) m0
      have r0 := Int.emod_nonneg (a % m * n + b % m) (show m ≠ 0 by omega)
      have da : (a / m).natAbs < 2 ^ 3600 := Nat.lt_of_le_of_lt (Int.natAbs_ediv_le_natAbs a m) ab
      have db : (b / m).natAbs < 2 ^ 3600 := Nat.lt_of_le_of_lt (Int.natAbs_ediv_le_natAbs b m) bb
      have n1b : (n - 1).natAbs < 2 ^ 3600 := Nat.lt_of_le_of_lt (by omega) nb
      have c1 : CDivW a m := wide_div (b := 3600) m0 mb (by decide) (by decide)
      have c2 : CDivW b m := wide_div (b := 3600) m0 mb (by decide) (by decide)
      have w1 : (n * (n - 1)).natAbs < 2 ^ 7200 := wide_lt nb n1b
      have c3 : CMulW n (n - 1) := wide_mul (a := 3600) (b := 3600) nb n1b (by decide) (by decide) (by decide)
      have w2 : (n * (n - 1) / 2).natAbs < 2 ^ 7200 := Nat.lt_of_le_of_lt (Int.natAbs_ediv_le_natAbs _ _) w1
      have c4 : CMulW (a / m) (n * (n - 1) / 2) := wide_mul (a := 3600) (b := 7200) da w2 (by decide) (by decide) (by decide)
      have c5 : CMulW (b / m) n := wide_mul (a := 3600) (b := 3600) db nb (by decide) (by decide) (by decide)
      have fb : (a % m).natAbs < 2 ^ 3600 := Nat.lt_of_le_of_lt (by omega) mb
      have gb : (b % m).natAbs < 2 ^ 3600 := Nat.lt_of_le_of_lt (by omega) mb
      have c6 : CMulW (a % m) n := wide_mul (a := 3600) (b := 3600) fb nb (by decide) (by decide) (by decide)
      have w3 : (a % m * n).natAbs < 2 ^ 7200 := wide_lt fb nb
      have c7 : CDivP (a % m * n + b % m) m := divp_near m0 (by
        have h1 : a % m * n ≤ (m - 1) * n := Int.mul_le_mul_of_nonneg_right (by omega) n0
        rw [Int.sub_mul, Int.one_mul] at h1
        have h2 : a % m * n + b % m < m * (n + 1) := by
          rw [Int.mul_add, Int.mul_one]
          omega
        have fn0 := Int.mul_nonneg f0 n0
        have h3 : (a % m * n + b % m).natAbs < m.natAbs * (n + 1).natAbs := by
          rw [← Int.natAbs_mul]
          omega
        refine Nat.lt_of_lt_of_le h3 (Nat.mul_le_mul_left _ ?_)
        have : (2 : Nat) ^ 3600 + 1 ≤ 2 ^ 3900 := by decide +kernel
        omega)
      refine ⟨fun σ G => ∃ (t n' a b m' : Int), m'.toNat < m.toNat ∧ σ = [some (.int n'), some (.int a), some (.int b), some (.int m'), some (.int t)] ∧ Ex H G ∧ 0 ≤ n' ∧ n'.natAbs < 2 ^ 3600 ∧ a.natAbs < 2 ^ 3600 ∧ b.natAbs < 2 ^ 3600 ∧ m'.natAbs < 2 ^ 3600 ∧ (0 < n' → 0 < m') ∧ t + fs a b m' n'.toNat = S, fun σ' H' ⟨t, n', a, b, m', q1, q2⟩ => ⟨_, q1, t, n', a, b, m', rfl, q2⟩, ?_⟩
      refine go_augI rfl ?_
      walk_at "rd"
      refine ⟨_, _, rfl, rfl, ?_⟩
      walk_at "rd"
      refine ⟨_, _, rfl, c7, fun p hp => ?_⟩
      have xp := Ex.new (o := HO.tup [.int ((a % m * n + b % m) / m), .int ((a % m * n + b % m) % m)]) hp
      refine go_gtup (.inl (.inl upd_same)) rfl ?_
      refine ⟨_, _, rfl, _, _, rfl, rfl, ?_⟩
      dsimp only
      walk_at "rd"
      refine ⟨_, _, _, _, _, ?_, rfl, eG.trans xp, t2, ?_, mb, ?_, fb, t4, ?_⟩
      · omega
      · omega
      · omega
      · rw [← inv, t1]
        omega
end
end Kx

set_option Elab.async false
set_option linter.all false
set_option maxRecDepth 100000
set_option maxHeartbeats 4000000

namespace Kx
open PySem PySem.Spec PyProof.Rows L2 HX
open Evl (Ex)
local macro_rules | `(tactic| walk_at "side") => `(tactic| first | assumption | ((try dsimp only); first | assumption | decide +kernel | omega | exact ⟨by decide, by decide⟩ | (left; decide) | (left; omega) | (refine Or.inl ⟨?_, ?_⟩ <;> omega) | (refine Or.inr ⟨?_, ?_⟩ <;> omega)))
local macro_rules | `(tactic| walk_at "heap") => `(tactic| first | assumption | exact upd_same | exact Or.inl (by assumption) | exact Or.inl upd_same)
local macro_rules | `(tactic| walk_at "item") => `(tactic| first | exact rfl | exact atI_nat (j := 0) rfl | exact atI_nat (j := 1) rfl | exact atI_nat (j := 2) rfl | assumption)
local macro_rules | `(tactic| walk_at "rd") => `(tactic| repeat (first
  | ((with_reducible refine' go_var ?hv ?_); (case hv => exact rfl))
  | with_reducible refine' go_c ?_
  | with_reducible refine' go_op ?_
  | with_reducible refine' go_seq ?_
  | with_reducible refine' go_asg ?_
  | with_reducible refine' go_name ?_
  | with_reducible refine' go_cons ?_
  | with_reducible refine' go_nil ?_
  | with_reducible refine' go_cb ?_
  | with_reducible refine' go_call ?_
  | with_reducible refine' go_ifS ?_
  | with_reducible refine' go_test ?_
  | with_reducible refine' go_bl ?_
  | with_reducible refine' go_ret ?_
  | with_reducible refine' go_I0 ?_
  | ((with_reducible refine' go_I ?cc ?_); (case cc => walk_at "side"))
  | ((with_reducible refine' go_ixL ?hh ?hk ?_); (case hh => walk_at "heap"); (case hk => walk_at "item"))
  | ((with_reducible refine' go_ixT ?hh ?hk ?_); (case hh => walk_at "heap"); (case hk => walk_at "item"))
  | ((with_reducible refine' go_lenL ?hh ?_); (case hh => walk_at "heap"))
  | ((with_reducible refine' go_lenT ?hh ?_); (case hh => walk_at "heap"))
  | ((with_reducible refine' go_setL ?hh ?hk ?_); (case hh => walk_at "heap"); (case hk => walk_at "item"))
  | with_reducible refine' go_abs ?_
  | with_reducible refine' go_max ?_
  | with_reducible refine' go_min ?_
  | with_reducible refine' go_int ?_
  | with_reducible refine' go_intB ?_
  | (with_reducible refine' go_eq rfl ?_)
  | (with_reducible refine' go_ne rfl ?_)
  | with_reducible refine' go_isN ?_
  | with_reducible refine' go_notN ?_
  | with_reducible refine' go_if ?_
  | with_reducible refine' go_sub ?_
  | with_reducible refine' go_par ?_
  | with_reducible refine' go_sl ?_
  | with_reducible refine' go_part ?_
  | with_reducible refine' go_pint ?_
  | with_reducible refine' go_nopart ?_
  | ((with_reducible refine' go_lenL ?hh ?_); (case hh => walk_at "heap"))
  | ((with_reducible refine' go_lenT ?hh ?_); (case hh => walk_at "heap"))
  | ((with_reducible refine' go_lenS ?hh ?_); (case hh => assumption))
  | with_reducible refine' go_gcons ?_
  | with_reducible refine' go_gnil ?_
  | with_reducible refine' go_kw ?_
  | with_reducible refine' go_par2 ?_
  | with_reducible refine' go_next ?_
  | with_reducible refine' go_drop ?_
  | with_reducible refine' go_and ?_
  | with_reducible refine' go_or ?_
  | with_reducible refine' go_not ?_
  | with_reducible refine' go_B ?_
  | with_reducible refine' go_andV ?_
  | with_reducible refine' go_orV ?_
  | with_reducible refine' go_notV ?_
  | with_reducible refine' go_chain ?_
  | with_reducible refine' go_un ?_
  | with_reducible refine' go_U ?_
  | with_reducible refine' go_bm ?_
  | with_reducible refine' go_tup ?_
  | with_reducible refine' go_lst ?_
  | with_reducible refine' go_forR1 ?_
  | with_reducible refine' go_forR2 ?_
  | with_reducible refine' go_forL ?_
  | with_reducible refine' go_forT ?_
  | with_reducible refine' go_forE ?_
  | with_reducible refine' go_lcR1 ?_
  | with_reducible refine' go_lcL ?_
  | with_reducible refine' go_lcT ?_
  | ((with_reducible refine' go_tyL ?hh ?_); (case hh => walk_at "heap"))
  | ((with_reducible refine' go_new ?hz ?_); (case hz => exact Nat.le_of_ble_eq_true rfl))
  | (with_reducible refine' ⟨_, rfl, ?_⟩)
  ))
--MACEND
/-- how many indexes from L to M lie in the spans of a piece -/
def cntBt (p : Pc) (s L M : Int) : Int := if M < L then 0 else cnt (fun i => spB p.sp ((s * i + L * s) % p.per)) (M - L + 1).toNat
def spCBt : Sp := fun vs H Q _ => ∃ v p s L M, vs = [v, .int s, .int L, .int M] ∧ Pp H v p ∧ PcB p ∧ 0 < s ∧ s.natAbs < 2 ^ 400 ∧ L.natAbs < 2 ^ 3100 ∧ M.natAbs < 2 ^ 3100 ∧ ∀ H', Ex H H' → Q (.int (cntBt p s L M)) H'
section
variable {P : Program} {w : World} {K : PySem.W.Frag} {mg : Str → Option Value} {base : Heap}
abbrev s__count_between : Stmt := top 53
theorem sc__count_between : FnScope ["piece", "step", "low", "high", "_", "spans", "period", "many", "start", "least", "greatest"] ["piece", "step", "low", "high"] (defScope s__count_between) := ⟨rfl, rfl, rfl, by decide +kernel, rfl, by decide +kernel, by decide +kernel⟩
theorem ok_count_between {f : Addr} {fd : FuncData} (F : Fun K "_count_between" "_count_between" s__count_between f fd) (m_sum : mg "sum" = none) (h_floor_sum : Has P w K mg base 1 "floor_sum" spFS) : FnOk P w K mg base CX0 2 f fd ["piece", "step", "low", "high"] spCBt := by
  refine F.ok sc__count_between (fun vs H Q E h => ?_) (fun cdv A outer s H vs Q E hr h => ?_)
  · obtain ⟨v, p, s, L, M, rfl, _⟩ := h
    rfl
  · obtain ⟨v, p, st, L, M, rfl, ⟨a, q, rfl, ha, xs, hq, hA⟩, hb, s0, sb, Lb, Mb, k⟩ := h
    refine ⟨_, (pss_cons (ps_asg (pv 0) (pg_tup (by rfl) (pgs_cons (pg_name (i := 4) sc__count_between.nd rfl (Or.inl rfl)) (pgs_cons (pg_name (i := 4) sc__count_between.nd rfl (Or.inl rfl)) (pgs_cons (pg_name (i := 5) sc__count_between.nd rfl (Or.inl rfl)) (pgs_cons (pg_name (i := 6) sc__count_between.nd rfl (Or.inr rfl)) pgs_nil))))))
  (pss_cons (ps_if (pt_cmpR op_lt (pv 3) (pv 2) (nomark _))
  (pss_one (ps_ret pe_int))
  pss_nil)
  (pss_cons (ps_asg (pe_tup (pa_cons (pe_op op_add (pe_op op_sub (pv 3) (pv 2)) pe_int) (pa_cons (pe_op op_mulW (pv 2) (pv 1)) pa_nil))) (pg_tup (by rfl) (pgs_cons (pg_name (i := 7) sc__count_between.nd rfl (Or.inr rfl)) (pgs_cons (pg_name (i := 8) sc__count_between.nd rfl (Or.inr rfl)) pgs_nil))))
  (pss_one (ps_ret (pe_callB (cr_sum rfl) rfl m_sum (by decide +kernel) (pa_cons (pe_lc (own := [("least", 9), ("greatest", 10)]) (g := gTup K 2 (gCons (gName 9) (gCons (gName 10) (gNil)))) (by rfl) (sc__count_between).nd (pi_list (pv 5)) (blkOk_by (own := [("least", 9), ("greatest", 10)]) (N := ["piece", "step", "low", "high", "_", "spans", "period", "many", "start", "least", "greatest"]) (sc := defScope s__count_between) (by decide +kernel)) (fun _ _ _ _ _ => pg_tup (by rfl) (pgs_cons (pg_name (i := 9) (sc__count_between).nd rfl (Or.inl rfl)) (pgs_cons (pg_name (i := 10) (sc__count_between).nd rfl (Or.inl rfl)) pgs_nil))) (fun _ _ _ _ _ => pts_nil) (fun _ _ _ _ _ => (pe_op op_sub (pe_hs h_floor_sum hr rfl (pa_cons (pv 7) (pa_cons (pv 1) (pa_cons (pe_op op_sub (pv 8) (pv 9)) (pa_cons (pv 6) pa_nil))))) (pe_hs h_floor_sum hr rfl (pa_cons (pv 7) (pa_cons (pv 1) (pa_cons (pe_op op_sub (pe_op op_sub (pv 8) (pv 10)) pe_int) (pa_cons (pv 6) pa_nil)))))))) pa_nil))))))), ?_⟩
    have p0 := hb.ok.sp.pos
    have pb : p.per.natAbs < 2 ^ 3600 := Nat.lt_trans (show p.per.natAbs < 2 ^ 3000 from hb.per) (by decide +kernel)
    walk_at "rd"
    refine go_gtup (.inl (.inl ha)) rfl ?_
    refine ⟨_, _, rfl, _, _, rfl, _, _, rfl, _, _, rfl, rfl, ?_⟩
    dsimp only
    walk_at "rd"
    unfold cntBt at k
    by_cases c : M < L
    · rw [decide_eq_true c]
      rw [if_pos c] at k
      refine iteT ?_
      walk_at "rd"
      exact k _ (Ex.refl _)
    · rw [decide_eq_false c]
      rw [if_neg c] at k
      refine iteF ?_
      have cm : CMulW L st := wide_mul (a := 3100) (b := 400) Lb sb (by decide) (by decide) (by decide)
      have Lsb : (L * st).natAbs < 2 ^ 3500 := wide_lt Lb sb
      walk_at "rd"
      intro p1 hp1
      have x1 := Ex.new (o := HO.tup [.int (M - L + 1), .int (L * st)]) hp1
      walk_at "rd"
      refine go_gtup (.inl (.inl upd_same)) rfl ?_
      refine ⟨_, _, rfl, _, _, rfl, rfl, ?_⟩
      dsimp only
      walk_at "rd"
      have eq0 := x1 _ _ hq
      have lenx : xs.length ≤ 100000 := by rw [hA.len]; exact hb.len
      have mb : (M - L + 1).natAbs < 2 ^ 3600 := by
        have e : (2 : Nat) ^ 3100 + 2 ^ 3100 + 1 ≤ 2 ^ 3600 := by decide +kernel
        omega
      have shb : ∀ z : Int, 0 ≤ z → z < p.per → (L * st - z).natAbs < 2 ^ 3600 ∧ (L * st - z - 1).natAbs < 2 ^ 3600 := fun z z0 z1 => by
        have e : (2 : Nat) ^ 3500 + 2 ^ 3000 + 1 ≤ 2 ^ 3600 := by decide +kernel
        have hp : p.per.natAbs < 2 ^ 3000 := hb.per
        constructor <;> omega
      have sb' : st.natAbs < 2 ^ 3600 := Nat.lt_trans sb (by decide +kernel)
      refine ⟨⟨xs, .inl (.inl eq0)⟩, ?_⟩
      obtain ⟨G0, hG0⟩ : ∃ G0, G0 = upd H p1 (.tup [.int (M - L + 1), .int (L * st)]) := ⟨_, rfl⟩
      rw [← hG0] at eq0 x1 ⊢
      refine run_lcL xs (fun D i G => G D = some (.lst ((((p.sp.take i).map fun s => fs st (L * st - s.1) p.per (M - L + 1).toNat - fs st (L * st - s.2 - 1) p.per (M - L + 1).toNat)).map V.int)) ∧ Ex G0 G ∧ G0 D = none) ?_ ?_ ?_ ?_
      · exact fun D hD => ⟨upd_same, Ex.new hD, hD⟩
      · exact fun D i G _ ⟨_, eG, _⟩ => .inl (.inl (eG _ _ eq0))
      · rintro D i v G hi ⟨hG, eG, hD⟩
        obtain ⟨t, ht, b, rfl, hbt⟩ := hA.get i v hi
        obtain ⟨r1, r2, r3⟩ := hb.ok.sp.rng t (List.mem_of_getElem? ht)
        refine go_gtup (.inl (.inl (eG _ _ (x1 _ _ hbt)))) rfl ?_
        walk_at "rd"
        refine ⟨rfl, go_yes (iteT ?_)⟩
        walk_at "rd"
        refine ⟨M - L + 1, st, L * st - t.1, p.per, rfl, by omega, mb, sb', (shb t.1 r1 (by omega)).1, p0, pb, fun G1 e1 => ?_⟩
        walk_at "rd"
        refine ⟨M - L + 1, st, L * st - t.2 - 1, p.per, rfl, by omega, mb, sb', (shb t.2 (by omega) r3).2, p0, pb, fun G2 e2 => ?_⟩
        walk_at "rd"
        have E2 := e1.trans e2
        have ilt := (List.getElem?_eq_some_iff.mp hi).1
        refine ⟨_, E2 _ _ hG, Nat.lt_of_le_of_lt (m := 100000) (by simp only [List.length_map, List.length_take]; omega) (by rw [sizeLine_eq]; decide), ?_, Ex.mut (eG.trans E2) hD, hD⟩
        rw [upd_same, List.take_succ, ht, List.map_append, List.map_append]
        rfl
      rintro D1 G1 hD1 ⟨h1, e1, _⟩
      rw [List.take_of_length_le (by rw [hA.len]; exact Nat.le_refl _)] at h1
      rw [← span_count hb.ok.sp] at k
      walk_at "rd"
      refine ⟨D1, _, rfl, .inl (.inl h1), ?_⟩
      walk_at "rd"
      exact k _ (x1.trans e1)
end
end Kx

set_option Elab.async false
set_option linter.all false
set_option maxRecDepth 100000
set_option maxHeartbeats 4000000

namespace Kx
open PySem PySem.Spec PyProof.Rows L2 HX
open Evl (Ex)
local macro_rules | `(tactic| walk_at "side") => `(tactic| first | assumption | ((try dsimp only); first | assumption | decide +kernel | omega | exact ⟨by decide, by decide⟩ | (left; decide) | (left; omega) | (refine Or.inl ⟨?_, ?_⟩ <;> omega) | (refine Or.inr ⟨?_, ?_⟩ <;> omega)))
local macro_rules | `(tactic| walk_at "heap") => `(tactic| first | assumption | exact upd_same | exact Or.inl (by assumption) | exact Or.inl upd_same)
local macro_rules | `(tactic| walk_at "item") => `(tactic| first | exact rfl | exact atI_nat (j := 0) rfl | exact atI_nat (j := 1) rfl | exact atI_nat (j := 2) rfl | assumption)
local macro_rules | `(tactic| walk_at "rd") => `(tactic| repeat (first
  | ((with_reducible refine' go_var ?hv ?_); (case hv => exact rfl))
  | with_reducible refine' go_c ?_
  | with_reducible refine' go_op ?_
  | with_reducible refine' go_seq ?_
  | with_reducible refine' go_asg ?_
  | with_reducible refine' go_name ?_
  | with_reducible refine' go_cons ?_
  | with_reducible refine' go_nil ?_
  | with_reducible refine' go_cb ?_
  | with_reducible refine' go_call ?_
  | with_reducible refine' go_ifS ?_
  | with_reducible refine' go_test ?_
  | with_reducible refine' go_bl ?_
  | with_reducible refine' go_ret ?_
  | with_reducible refine' go_I0 ?_
  | ((with_reducible refine' go_I ?cc ?_); (case cc => walk_at "side"))
  | ((with_reducible refine' go_ixL ?hh ?hk ?_); (case hh => walk_at "heap"); (case hk => walk_at "item"))
  | ((with_reducible refine' go_ixT ?hh ?hk ?_); (case hh => walk_at "heap"); (case hk => walk_at "item"))
  | ((with_reducible refine' go_lenL ?hh ?_); (case hh => walk_at "heap"))
  | ((with_reducible refine' go_lenT ?hh ?_); (case hh => walk_at "heap"))
  | ((with_reducible refine' go_setL ?hh ?hk ?_); (case hh => walk_at "heap"); (case hk => walk_at "item"))
  | with_reducible refine' go_abs ?_
  | with_reducible refine' go_max ?_
  | with_reducible refine' go_min ?_
  | with_reducible refine' go_int ?_
  | with_reducible refine' go_intB ?_
  | (with_reducible refine' go_eq rfl ?_)
  | (with_reducible refine' go_ne rfl ?_)
  | with_reducible refine' go_isN ?_
  | with_reducible refine' go_notN ?_
  | with_reducible refine' go_if ?_
  | with_reducible refine' go_sub ?_
  | with_reducible refine' go_par ?_
  | with_reducible refine' go_sl ?_
  | with_reducible refine' go_part ?_
  | with_reducible refine' go_pint ?_
  | with_reducible refine' go_nopart ?_
  | ((with_reducible refine' go_lenL ?hh ?_); (case hh => walk_at "heap"))
  | ((with_reducible refine' go_lenT ?hh ?_); (case hh => walk_at "heap"))
  | ((with_reducible refine' go_lenS ?hh ?_); (case hh => assumption))
  | with_reducible refine' go_gcons ?_
  | with_reducible refine' go_gnil ?_
  | with_reducible refine' go_kw ?_
  | with_reducible refine' go_par2 ?_
  | with_reducible refine' go_next ?_
  | with_reducible refine' go_drop ?_
  | with_reducible refine' go_and ?_
  | with_reducible refine' go_or ?_
  | with_reducible refine' go_not ?_
  | with_reducible refine' go_B ?_
  | with_reducible refine' go_andV ?_
  | with_reducible refine' go_orV ?_
  | with_reducible refine' go_notV ?_
  | with_reducible refine' go_chain ?_
  | with_reducible refine' go_un ?_
  | with_reducible refine' go_U ?_
  | with_reducible refine' go_bm ?_
  | with_reducible refine' go_tup ?_
  | with_reducible refine' go_lst ?_
  | with_reducible refine' go_forR1 ?_
  | with_reducible refine' go_forR2 ?_
  | with_reducible refine' go_forL ?_
  | with_reducible refine' go_forT ?_
  | with_reducible refine' go_forE ?_
  | with_reducible refine' go_lcR1 ?_
  | with_reducible refine' go_lcL ?_
  | with_reducible refine' go_lcT ?_
  | ((with_reducible refine' go_tyL ?hh ?_); (case hh => walk_at "heap"))
  | ((with_reducible refine' go_new ?hz ?_); (case hz => exact Nat.le_of_ble_eq_true rfl))
  | (with_reducible refine' ⟨_, rfl, ?_⟩)
  ))
--MACEND
abbrev onP (p : Pc) (s i : Int) : Bool := spB p.sp (i * s % p.per)
theorem cnt_zero0 {P : Int → Bool} : ∀ n : Nat, (∀ y : Int, 0 ≤ y → y < n → P y = false) → cnt P n = 0
  | 0, _ => rfl
  | n + 1, h => by
    rw [cnt_succ, cnt_zero0 n fun y y0 y1 => h y y0 (by omega), h n (by omega) (by omega)]
    rfl
theorem bt_pos {p : Pc} {s L M : Int} : 0 < cntBt p s L M ↔ ∃ i, L ≤ i ∧ i ≤ M ∧ onP p s i = true := by
  unfold cntBt
  have e : ∀ i : Int, s * i + L * s = (L + i) * s := fun i => by rw [Int.add_mul, Int.mul_comm s i]; omega
  constructor
  · intro h
    by_cases c : M < L
    · rw [if_pos c] at h
      omega
    · rw [if_neg c] at h
      refine Classical.byContradiction fun no => ?_
      rw [cnt_zero0 _ fun y y0 y1 => ?_] at h
      · omega
      · rw [e]
        cases q : spB p.sp ((L + y) * s % p.per) with
        | false => rfl
        | true => exact absurd ⟨L + y, by omega, by omega, q⟩ no
  · rintro ⟨i, i0, i1, hi⟩
    rw [if_neg (by omega)]
    have ei : (((i - L).toNat : Nat) : Int) = i - L := by omega
    have := cnt_lt (P := fun i => spB p.sp ((s * i + L * s) % p.per)) (m := (i - L).toNat) (n := (M - L + 1).toNat) (by omega) (by rw [ei]; show spB p.sp ((s * (i - L) + L * s) % p.per) = true; rw [e, show L + (i - L) = i by omega]; exact hi)
    have := cnt_nn (fun i => spB p.sp ((s * i + L * s) % p.per)) (i - L).toNat
    omega
def spFBt : Sp := fun vs H Q _ => ∃ v p s L M, vs = [v, .int s, .int L, .int M] ∧ Pp H v p ∧ PcB p ∧ 0 < s ∧ s.natAbs < 2 ^ 400 ∧ L.natAbs < 2 ^ 3100 ∧ M.natAbs < 2 ^ 3100 ∧ 0 < cntBt p s L M ∧ ∀ j H', Ex H H' → L ≤ j → j ≤ M → onP p s j = true → (∀ i, L ≤ i → i < j → onP p s i = false) → Q (.int j) H'
section
variable {P : Program} {w : World} {K : PySem.W.Frag} {mg : Str → Option Value} {base : Heap}
abbrev s__first_between : Stmt := top 54
theorem sc__first_between : FnScope ["piece", "step", "low", "high", "middle"] ["piece", "step", "low", "high"] (defScope s__first_between) := ⟨rfl, rfl, rfl, by decide +kernel, rfl, by decide +kernel, by decide +kernel⟩
theorem ok_first_between {f : Addr} {fd : FuncData} (F : Fun K "_first_between" "_first_between" s__first_between f fd) (h__count_between : Has P w K mg base 2 "_count_between" spCBt) : FnOk P w K mg base CX0 3 f fd ["piece", "step", "low", "high"] spFBt := by
  refine F.ok sc__first_between (fun vs H Q E h => ?_) (fun cdv A outer s H vs Q E hr h => ?_)
  · obtain ⟨v, p, s, L, M, rfl, _⟩ := h
    rfl
  · obtain ⟨v, p, st, L, M, rfl, hp, hb, s0, sb, Lb, Mb, pos, k⟩ := h
    refine ⟨_, (pss_cons (ps_while PassesOwn.never (pt_cmpR op_lt (pv 2) (pv 3) (nomark _))
  (pss_cons (ps_set (i := 4) sc__first_between.nd rfl (Or.inl rfl) (pe_op op_fdiv (pe_op op_add (pv 2) (pv 3)) pe_int))
  (pss_one (ps_if (pt_cmpR op_gt (pe_hs h__count_between hr rfl (pa_cons (pv 0) (pa_cons (pv 1) (pa_cons (pv 2) (pa_cons (pv 4) pa_nil))))) pe_int (nomark _))
  (pss_one (ps_set (i := 3) sc__first_between.nd rfl (Or.inl rfl) (pv 4)))
  (pss_one (ps_set (i := 2) sc__first_between.nd rfl (Or.inl rfl) (pe_op op_add (pv 4) pe_int)))))))
  (pss_one (ps_ret (pv 2)))), ?_⟩
    obtain ⟨i0, j1, j2, j3⟩ := bt_pos.mp pos
    walk_at "rd"
    refine ⟨fun μ σ G => ∃ (lo hi : Int) (v4 : Option V), μ = (hi - lo).toNat ∧ σ = [some v, some (.int st), some (.int lo), some (.int hi), v4] ∧ Ex H G ∧ L ≤ lo ∧ lo ≤ hi ∧ hi ≤ M ∧ (∀ i, L ≤ i → i < lo → onP p st i = false) ∧ ∃ i, lo ≤ i ∧ i ≤ hi ∧ onP p st i = true,
      ⟨_, L, M, _, rfl, rfl, Ex.refl _, Int.le_refl _, by omega, Int.le_refl _, fun i _ _ => by omega, i0, j1, j2, j3⟩, ?_⟩
    clear j1 j2 j3 i0 pos
    rintro μ σ G ⟨lo, hi, v4, rfl, rfl, eG, l1, l2, l3, no, i, i1, i2, i3⟩
    walk_at "rd"
    by_cases c : lo < hi
    · rw [decide_eq_true c]
      refine iteT ?_
      refine ⟨fun σ G => ∃ (lo' hi' : Int) (v4 : Option V), (hi' - lo').toNat < (hi - lo).toNat ∧ σ = [some v, some (.int st), some (.int lo'), some (.int hi'), v4] ∧ Ex H G ∧ L ≤ lo' ∧ lo' ≤ hi' ∧ hi' ≤ M ∧ (∀ i, L ≤ i → i < lo' → onP p st i = false) ∧ ∃ i, lo' ≤ i ∧ i ≤ hi' ∧ onP p st i = true, fun σ' H' ⟨lo', hi', v4, q1, q2⟩ => ⟨_, q1, lo', hi', v4, rfl, q2⟩, ?_⟩
      walk_at "rd"
      refine ⟨v, p, st, lo, (lo + hi) / 2, rfl, hp.ex eG, hb, s0, sb, by omega, by omega, fun G2 e2 => ?_⟩
      walk_at "rd"
      refine ite2 (fun d => ?_) (fun d => ?_)
      · have d : cntBt p st lo ((lo + hi) / 2) > 0 := of_decide_eq_true d
        walk_at "rd"
        exact ⟨lo, (lo + hi) / 2, _, by omega, rfl, eG.trans e2, l1, by omega, by omega, no, bt_pos.mp d⟩
      · have d : ¬ cntBt p st lo ((lo + hi) / 2) > 0 := fun z => d (decide_eq_true z)
        have none' : ∀ i, lo ≤ i → i ≤ (lo + hi) / 2 → onP p st i = false := fun i a1 a2 => by
          cases q : onP p st i with
          | false => rfl
          | true => exact absurd (bt_pos.mpr ⟨i, a1, a2, q⟩) d
        walk_at "rd"
        refine ⟨(lo + hi) / 2 + 1, hi, _, by omega, rfl, eG.trans e2, by omega, by omega, l3, fun i a1 a2 => ?_, i, ?_, i2, i3⟩
        · by_cases z : i < lo
          · exact no i a1 z
          · exact none' i (by omega) (by omega)
        · refine Classical.byContradiction fun z => ?_
          rw [none' i i1 (by omega)] at i3
          cases i3
    · rw [decide_eq_false c]
      refine iteF ?_
      walk_at "rd"
      have : i = lo := by omega
      subst this
      exact k i _ eG l1 (by omega) i3 no
end
end Kx

set_option Elab.async false
set_option linter.all false
set_option maxRecDepth 100000
set_option maxHeartbeats 4000000
/-! min(ints, default=d) -/
namespace L2
open PySem PySem.Spec PyProof.Rows PySem.W
section
variable {X : Cx}
def leastOr (ns : List Int) (d : Int) : Int := match ns with | [] => d | y :: ys => ys.foldl min y
def rMinDef (K : PySem.W.Frag) : List V → List V → Hp → VK → Prop := fun vs zs H Q => ∃ (a : Addr) (ns : List Int) (d : Int), vs = [V.ref a] ∧ zs = [V.int d] ∧ SqL K H a (ns.map V.int) ∧ Q (.int (leastOr ns d)) H
theorem cr_minDef (hc : X.calm = true) (hu : X.A.units + 64 < cLine) : CallRK X (.builtin "min") [Str.ofString "default"] (rMinDef X.K) := by
  intro pins s σ H vs zs us ws Q I r rz h
  obtain ⟨a, ns, d, rfl, rfl, hs, q⟩ := h
  obtain rfl := Vals.ref1 r
  obtain ⟨w1, rfl, e1⟩ := vals1 rz
  obtain ⟨its, rv, hl, hz⟩ := I.list hs
  have hi := rv.ints
  refine min_list_default (vs := its.toArray) (xs := ns.map PyData.int) (as := []) (I.ok.hd hc) hl.isList (by simpa using hi.reads s.heap) (alikeAll_datum (α := Int) ns) ?_ (fun e h' tk k => ?_) (fun y ys i v h' tk bs e hv rd k => ?_)
  · have : PyData.depthAll (ns.map PyData.int) = 0 := by
      clear hi rv hl hz hs q
      induction ns with
      | nil => rfl
      | cons n ns ih => rw [List.map_cons, PyData.depthAll, ih]; rfl
    omega
  · have e : ns = [] := List.map_eq_nil_iff.mp e
    subst e
    exact ⟨_, H, I.kept k, e1, q⟩
  · cases ns with
    | nil => cases e
    | cons n ns =>
      rw [List.map_cons] at e
      injection e with e1' e2'
      subst e1'
      subst e2'
      rw [minD_ints] at rd
      obtain ⟨t, rfl, _⟩ := reads_int_inv rd
      exact ⟨V.int _, H, I.kept k, ⟨t, rfl⟩, q⟩
end
end L2

set_option Elab.async false
set_option linter.all false
set_option maxRecDepth 100000
set_option maxHeartbeats 4000000

namespace Kx
open PySem PySem.Spec PyProof.Rows L2 HX
open Evl (Ex)
local macro_rules | `(tactic| walk_at "side") => `(tactic| first | assumption | ((try dsimp only); first | assumption | decide +kernel | omega | exact ⟨by decide, by decide⟩ | (left; decide) | (left; omega) | (refine Or.inl ⟨?_, ?_⟩ <;> omega) | (refine Or.inr ⟨?_, ?_⟩ <;> omega)))
local macro_rules | `(tactic| walk_at "heap") => `(tactic| first | assumption | exact upd_same | exact Or.inl (by assumption) | exact Or.inl upd_same)
local macro_rules | `(tactic| walk_at "item") => `(tactic| first | exact rfl | exact atI_nat (j := 0) rfl | exact atI_nat (j := 1) rfl | exact atI_nat (j := 2) rfl | assumption)
local macro_rules | `(tactic| walk_at "rd") => `(tactic| repeat (first
  | ((with_reducible refine' go_var ?hv ?_); (case hv => exact rfl))
  | with_reducible refine' go_c ?_
  | with_reducible refine' go_op ?_
  | with_reducible refine' go_seq ?_
  | with_reducible refine' go_asg ?_
  | with_reducible refine' go_name ?_
  | with_reducible refine' go_cons ?_
  | with_reducible refine' go_nil ?_
  | with_reducible refine' go_cb ?_
  | with_reducible refine' go_call ?_
  | with_reducible refine' go_ifS ?_
  | with_reducible refine' go_test ?_
  | with_reducible refine' go_bl ?_
  | with_reducible refine' go_ret ?_
  | with_reducible refine' go_I0 ?_
  | ((with_reducible refine' go_I ?cc ?_); (case cc => walk_at "side"))
  | ((with_reducible refine' go_ixL ?hh ?hk ?_); (case hh => walk_at "heap"); (case hk => walk_at "item"))
  | ((with_reducible refine' go_ixT ?hh ?hk ?_); (case hh => walk_at "heap"); (case hk => walk_at "item"))
  | ((with_reducible refine' go_lenL ?hh ?_); (case hh => walk_at "heap"))
  | ((with_reducible refine' go_lenT ?hh ?_); (case hh => walk_at "heap"))
  | ((with_reducible refine' go_setL ?hh ?hk ?_); (case hh => walk_at "heap"); (case hk => walk_at "item"))
  | with_reducible refine' go_abs ?_
  | with_reducible refine' go_max ?_
  | with_reducible refine' go_min ?_
  | with_reducible refine' go_int ?_
  | with_reducible refine' go_intB ?_
  | (with_reducible refine' go_eq rfl ?_)
  | (with_reducible refine' go_ne rfl ?_)
  | with_reducible refine' go_isN ?_
  | with_reducible refine' go_notN ?_
  | with_reducible refine' go_if ?_
  | with_reducible refine' go_sub ?_
  | with_reducible refine' go_par ?_
  | with_reducible refine' go_sl ?_
  | with_reducible refine' go_part ?_
  | with_reducible refine' go_pint ?_
  | with_reducible refine' go_nopart ?_
  | ((with_reducible refine' go_lenL ?hh ?_); (case hh => walk_at "heap"))
  | ((with_reducible refine' go_lenT ?hh ?_); (case hh => walk_at "heap"))
  | ((with_reducible refine' go_lenS ?hh ?_); (case hh => assumption))
  | with_reducible refine' go_gcons ?_
  | with_reducible refine' go_gnil ?_
  | with_reducible refine' go_kw ?_
  | with_reducible refine' go_par2 ?_
  | with_reducible refine' go_next ?_
  | with_reducible refine' go_drop ?_
  | with_reducible refine' go_and ?_
  | with_reducible refine' go_or ?_
  | with_reducible refine' go_not ?_
  | with_reducible refine' go_B ?_
  | with_reducible refine' go_andV ?_
  | with_reducible refine' go_orV ?_
  | with_reducible refine' go_notV ?_
  | with_reducible refine' go_chain ?_
  | with_reducible refine' go_un ?_
  | with_reducible refine' go_U ?_
  | with_reducible refine' go_bm ?_
  | with_reducible refine' go_tup ?_
  | with_reducible refine' go_lst ?_
  | with_reducible refine' go_forR1 ?_
  | with_reducible refine' go_forR2 ?_
  | with_reducible refine' go_forL ?_
  | with_reducible refine' go_forT ?_
  | with_reducible refine' go_forE ?_
  | with_reducible refine' go_lcR1 ?_
  | with_reducible refine' go_lcL ?_
  | with_reducible refine' go_lcT ?_
  | ((with_reducible refine' go_tyL ?hh ?_); (case hh => walk_at "heap"))
  | ((with_reducible refine' go_new ?hz ?_); (case hz => exact Nat.le_of_ble_eq_true rfl))
  | (with_reducible refine' ⟨_, rfl, ?_⟩)
  ))
--MACEND
theorem go_ckw {r : List V → List V → Hp → VK → Prop} {t tk : TA} {σ : L2.St} {H : Hp} {Q : VK} (h : t σ H fun vs H1 => tk σ H1 fun zs H2 => r vs zs H2 Q) : tCKw r t tk σ H Q := h
def spIA : Sp := fun vs H Q _ => ∃ v p s many, vs = [v, .int s, optV many] ∧ Pp H v p ∧ PcB p ∧ 0 < s ∧ s.natAbs < 2 ^ 400 ∧ ∀ q H', Ex H H' → H' q = some (.tup [.int (loI p s), .int (hiI p s many)]) → Q (.ref q) H'
section
variable {P : Program} {w : World} {K : PySem.W.Frag} {mg : Str → Option Value} {base : Heap}
abbrev s__indexes_along : Stmt := top 52
theorem sc__indexes_along : FnScope ["piece", "step", "many", "first", "last", "_", "period", "low", "highs"] ["piece", "step", "many"] (defScope s__indexes_along) := ⟨rfl, rfl, rfl, by decide +kernel, rfl, by decide +kernel, by decide +kernel⟩
theorem ok_indexes_along {f : Addr} {fd : FuncData} (F : Fun K "_indexes_along" "_indexes_along" s__indexes_along f fd) (m_min : mg "min" = none) : FnOk P w K mg base CX0 1 f fd ["piece", "step", "many"] spIA := by
  refine F.ok sc__indexes_along (fun vs H Q E h => ?_) (fun cdv A outer s H vs Q E hr h => ?_)
  · obtain ⟨v, p, s, many, rfl, _⟩ := h
    rfl
  · obtain ⟨v, p, st, many, rfl, ⟨a, q, rfl, ha, xs, hq, hA⟩, hb, s0, sb, k⟩ := h
    refine ⟨_, (pss_cons (ps_asg (pv 0) (pg_tup (by rfl) (pgs_cons (pg_name (i := 3) sc__indexes_along.nd rfl (Or.inl rfl)) (pgs_cons (pg_name (i := 4) sc__indexes_along.nd rfl (Or.inl rfl)) (pgs_cons (pg_name (i := 5) sc__indexes_along.nd rfl (Or.inl rfl)) (pgs_cons (pg_name (i := 6) sc__indexes_along.nd rfl (Or.inl rfl)) pgs_nil))))))
  (pss_cons (ps_set (i := 7) sc__indexes_along.nd rfl (Or.inl rfl) (pe_un un_neg (pe_op op_fdivW (pe_un un_neg (pv 3)) (pv 1))))
  (pss_cons (ps_set (i := 8) sc__indexes_along.nd rfl (Or.inl rfl) (pe_ifExp (pt_cmpR op_isN1 (pv 4) pe_non (nomark _)) (pe_lst pa_nil) (pe_lst (pa_cons (pe_op op_fdivW (pv 4) (pv 1)) pa_nil))))
  (pss_cons (ps_if (pt_cmpR op_notN1 (pv 2) pe_non (nomark _))
  (pss_one (ps_expr (pe_bm PySem.F.plainAttrs_list PySem.F.slot_list_append PySem.F.type_list_append mt_append (pv 8) (pa_cons (pe_op op_sub (pv 2) pe_int) pa_nil))))
  pss_nil)
  (pss_one (ps_ret (pe_tup (pa_cons (pv 7) (pa_cons (pe_callBK (cr_minDef rfl hr.units) rfl m_min (by decide +kernel) (pa_cons (pv 8) pa_nil) (pk_cons (pe_op op_sub (pe_op op_add (pv 7) (pv 6)) pe_int) pk_nil)) pa_nil))))))))), ?_⟩
    have c1 : CDivW (-p.lo) st := wide_div (b := 400) s0 sb (by decide) (by decide)
    walk_at "rd"
    refine go_gtup (.inl (.inl ha)) rfl ?_
    refine ⟨_, _, rfl, _, _, rfl, _, _, rfl, _, _, rfl, rfl, ?_⟩
    dsimp only
    walk_at "rd"
    have k : ∀ z : Int, hiI p st many = z → ∀ q H', Ex H H' → H' q = some (.tup [.int (-(-p.lo / st)), .int z]) → Q (.ref q) H' := fun z e q H' eH h => by
      subst e
      exact k q H' eH h
    unfold hiI at k
    cases hh : p.hi with
    | none =>
      rw [hh] at k
      refine iteT ?_
      walk_at "rd"
      intro l hl
      have x1 := Ex.new (o := HO.lst []) hl
      cases many with
      | none =>
        walk_at "rd"
        refine ite2 (fun c => absurd c (by simp [optV])) (fun _ => ?_)
        walk_at "rd"
        refine go_ckw ?_
        walk_at "rd"
        refine ⟨l, [], _, rfl, rfl, .inl (.inl upd_same), ?_⟩
        walk_at "rd"
        intro t ht
        exact k _ rfl t _ (x1.trans (Ex.new ht)) upd_same
      | some m =>
        walk_at "rd"
        refine ite2 (fun _ => ?_) (fun c => absurd (by simp [optV]) c)
        rw [show optV (some m) = V.int m from rfl]
        walk_at "rd"
        refine go_app upd_same (by rw [sizeLine_eq]; show _ < 16777216; simp) ?_
        have x2 : Ex H (upd (upd H l (.lst ([]))) l (.lst ([] ++ [.int (m - 1)]))) := Ex.mut x1 hl
        walk_at "rd"
        refine go_ckw ?_
        walk_at "rd"
        refine ⟨l, [m - 1], _, rfl, rfl, .inl (.inl upd_same), ?_⟩
        walk_at "rd"
        intro t ht
        refine k _ ?_ t _ (x2.trans (Ex.new ht)) upd_same
        rfl
    | some g =>
      rw [hh] at k
      refine iteF ?_
      rw [show optV (some g) = V.int g from rfl]
      have c2 : CDivW g st := wide_div (b := 400) s0 sb (by decide) (by decide)
      walk_at "rd"
      intro l hl
      have x1 := Ex.new (o := HO.lst [.int (g / st)]) hl
      cases many with
      | none =>
        walk_at "rd"
        refine ite2 (fun c => absurd c (by simp [optV])) (fun _ => ?_)
        walk_at "rd"
        refine go_ckw ?_
        walk_at "rd"
        refine ⟨l, [g / st], _, rfl, rfl, .inl (.inl upd_same), ?_⟩
        walk_at "rd"
        intro t ht
        exact k _ rfl t _ (x1.trans (Ex.new ht)) upd_same
      | some m =>
        walk_at "rd"
        refine ite2 (fun _ => ?_) (fun c => absurd (by simp [optV]) c)
        rw [show optV (some m) = V.int m from rfl]
        walk_at "rd"
        refine go_app upd_same (by rw [sizeLine_eq]; show _ < 16777216; simp) ?_
        have x2 : Ex H (upd (upd H l (.lst ([.int (g / st)]))) l (.lst ([.int (g / st)] ++ [.int (m - 1)]))) := Ex.mut x1 hl
        walk_at "rd"
        refine go_ckw ?_
        walk_at "rd"
        refine ⟨l, [g / st, m - 1], _, rfl, rfl, .inl (.inl upd_same), ?_⟩
        walk_at "rd"
        intro t ht
        refine k _ ?_ t _ (x2.trans (Ex.new ht)) upd_same
        show (if g / st < m - 1 then g / st else m - 1) = min (g / st) (m - 1)
        split <;> omega
end
end Kx

set_option Elab.async false
set_option linter.all false
set_option maxRecDepth 100000
set_option maxHeartbeats 4000000

namespace Kx
open PySem PySem.Spec PyProof.Rows L2 HX
open Evl (Ex)
local macro_rules | `(tactic| walk_at "side") => `(tactic| first | assumption | ((try dsimp only); first | assumption | decide +kernel | omega | exact ⟨by decide, by decide⟩ | (left; decide) | (left; omega) | (refine Or.inl ⟨?_, ?_⟩ <;> omega) | (refine Or.inr ⟨?_, ?_⟩ <;> omega)))
local macro_rules | `(tactic| walk_at "heap") => `(tactic| first | assumption | exact upd_same | exact Or.inl (by assumption) | exact Or.inl upd_same)
local macro_rules | `(tactic| walk_at "item") => `(tactic| first | exact rfl | exact atI_nat (j := 0) rfl | exact atI_nat (j := 1) rfl | exact atI_nat (j := 2) rfl | assumption)
local macro_rules | `(tactic| walk_at "rd") => `(tactic| repeat (first
  | ((with_reducible refine' go_var ?hv ?_); (case hv => exact rfl))
  | with_reducible refine' go_c ?_
  | with_reducible refine' go_op ?_
  | with_reducible refine' go_seq ?_
  | with_reducible refine' go_asg ?_
  | with_reducible refine' go_name ?_
  | with_reducible refine' go_cons ?_
  | with_reducible refine' go_nil ?_
  | with_reducible refine' go_cb ?_
  | with_reducible refine' go_call ?_
  | with_reducible refine' go_ifS ?_
  | with_reducible refine' go_test ?_
  | with_reducible refine' go_bl ?_
  | with_reducible refine' go_ret ?_
  | with_reducible refine' go_I0 ?_
  | ((with_reducible refine' go_I ?cc ?_); (case cc => walk_at "side"))
  | ((with_reducible refine' go_ixL ?hh ?hk ?_); (case hh => walk_at "heap"); (case hk => walk_at "item"))
  | ((with_reducible refine' go_ixT ?hh ?hk ?_); (case hh => walk_at "heap"); (case hk => walk_at "item"))
  | ((with_reducible refine' go_lenL ?hh ?_); (case hh => walk_at "heap"))
  | ((with_reducible refine' go_lenT ?hh ?_); (case hh => walk_at "heap"))
  | ((with_reducible refine' go_setL ?hh ?hk ?_); (case hh => walk_at "heap"); (case hk => walk_at "item"))
  | with_reducible refine' go_abs ?_
  | with_reducible refine' go_max ?_
  | with_reducible refine' go_min ?_
  | with_reducible refine' go_int ?_
  | with_reducible refine' go_intB ?_
  | (with_reducible refine' go_eq rfl ?_)
  | (with_reducible refine' go_ne rfl ?_)
  | with_reducible refine' go_isN ?_
  | with_reducible refine' go_notN ?_
  | with_reducible refine' go_if ?_
  | with_reducible refine' go_sub ?_
  | with_reducible refine' go_par ?_
  | with_reducible refine' go_sl ?_
  | with_reducible refine' go_part ?_
  | with_reducible refine' go_pint ?_
  | with_reducible refine' go_nopart ?_
  | ((with_reducible refine' go_lenL ?hh ?_); (case hh => walk_at "heap"))
  | ((with_reducible refine' go_lenT ?hh ?_); (case hh => walk_at "heap"))
  | ((with_reducible refine' go_lenS ?hh ?_); (case hh => assumption))
  | with_reducible refine' go_gcons ?_
  | with_reducible refine' go_gnil ?_
  | with_reducible refine' go_kw ?_
  | with_reducible refine' go_par2 ?_
  | with_reducible refine' go_next ?_
  | with_reducible refine' go_drop ?_
  | with_reducible refine' go_and ?_
  | with_reducible refine' go_or ?_
  | with_reducible refine' go_not ?_
  | with_reducible refine' go_B ?_
  | with_reducible refine' go_andV ?_
  | with_reducible refine' go_orV ?_
  | with_reducible refine' go_notV ?_
  | with_reducible refine' go_chain ?_
  | with_reducible refine' go_un ?_
  | with_reducible refine' go_U ?_
  | with_reducible refine' go_bm ?_
  | with_reducible refine' go_tup ?_
  | with_reducible refine' go_lst ?_
  | with_reducible refine' go_forR1 ?_
  | with_reducible refine' go_forR2 ?_
  | with_reducible refine' go_forL ?_
  | with_reducible refine' go_forT ?_
  | with_reducible refine' go_forE ?_
  | with_reducible refine' go_lcR1 ?_
  | with_reducible refine' go_lcL ?_
  | with_reducible refine' go_lcT ?_
  | ((with_reducible refine' go_tyL ?hh ?_); (case hh => walk_at "heap"))
  | ((with_reducible refine' go_new ?hz ?_); (case hz => exact Nat.le_of_ble_eq_true rfl))
  | (with_reducible refine' ⟨_, rfl, ?_⟩)
  ))
--MACEND
theorem lo_bd {p : Pc} (k : PcB p) {s : Int} (s0 : 0 < s) : 0 ≤ loI p s ∧ (loI p s).natAbs < 2 ^ 3100 := by
  have h := lo_nn k.ok s0
  have h1 : (-p.lo / s).natAbs ≤ (-p.lo).natAbs := Int.natAbs_ediv_le_natAbs _ _
  have h2 : p.lo.natAbs < 2 ^ 3000 := k.lo
  have e : (2 : Nat) ^ 3000 ≤ 2 ^ 3100 := by decide +kernel
  refine ⟨h, ?_⟩
  unfold loI at *
  omega
theorem hi_bd {p : Pc} (k : PcB p) {s : Int} (s0 : 0 < s) {many : Option Int} (mb : ∀ m, many = some m → m.natAbs < 2 ^ 3050) : (hiI p s many).natAbs < 2 ^ 3100 := by
  obtain ⟨l0, l1⟩ := lo_bd k s0
  have hp : p.per.natAbs < 2 ^ 3000 := k.per
  have p0 := k.ok.sp.pos
  have h1 : (-p.lo / s).natAbs ≤ (-p.lo).natAbs := Int.natAbs_ediv_le_natAbs _ _
  have h2 : p.lo.natAbs < 2 ^ 3000 := k.lo
  have e : (2 : Nat) ^ 3000 + 2 ^ 3050 + 1 ≤ 2 ^ 3100 := by decide +kernel
  have e' : (2 : Nat) ^ 3000 ≤ 2 ^ 3050 := by decide +kernel
  have g : ∀ g, p.hi = some g → (g / s).natAbs < 2 ^ 3000 := fun g hg => Nat.lt_of_le_of_lt (Int.natAbs_ediv_le_natAbs g s) (k.hi g hg)
  unfold hiI loI
  cases hh : p.hi with
  | none =>
    cases many with
    | none => dsimp only; omega
    | some m => have := mb m rfl; dsimp only; omega
  | some z =>
    have := g z hh
    cases many with
    | none => dsimp only; omega
    | some m => have := mb m rfl; dsimp only; split <;> omega
def spStride : Sp := fun vs H Q _ => ∃ q ps s many, vs = [.ref q, .int s, optV many] ∧ Lpc H q ps ∧ PsB ps ∧ 0 < s ∧ s.natAbs < 2 ^ 400 ∧ (∀ m, many = some m → m.natAbs < 2 ^ 3050) ∧ ∀ o H', Ex H H' → IsNext (strB ps s many) 0 o → Q (optV o) H'
section
variable {P : Program} {w : World} {K : PySem.W.Frag} {mg : Str → Option Value} {base : Heap}
abbrev s_first_stride : Stmt := top 50
theorem sc_first_stride : FnScope ["pieces", "step", "many", "piece", "low", "high"] ["pieces", "step", "many"] (defScope s_first_stride) := ⟨rfl, rfl, rfl, by decide +kernel, rfl, by decide +kernel, by decide +kernel⟩
theorem ok_first_stride {f : Addr} {fd : FuncData} (F : Fun K "first_stride" "first_stride" s_first_stride f fd) (h__indexes_along : Has P w K mg base 1 "_indexes_along" spIA) (h__count_between : Has P w K mg base 2 "_count_between" spCBt) (h__first_between : Has P w K mg base 3 "_first_between" spFBt) : FnOk P w K mg base CX0 4 f fd ["pieces", "step", "many"] spStride := by
  refine F.ok sc_first_stride (fun vs H Q E h => ?_) (fun cdv A outer s H vs Q E hr h => ?_)
  · obtain ⟨q, ps, s, many, rfl, _⟩ := h
    rfl
  · obtain ⟨q, ps, st, many, rfl, ⟨xs, hq, hA⟩, hb, s0, sb, mb, k⟩ := h
    refine ⟨_, (pss_cons (ps_for PassesOwn.never rfl (pi_list (pv 0)) (pg_name (i := 3) sc_first_stride.nd rfl (Or.inl rfl))
  (pss_cons (ps_asg (pe_hs h__indexes_along hr rfl (pa_cons (pv 3) (pa_cons (pv 1) (pa_cons (pv 2) pa_nil)))) (pg_tup (by rfl) (pgs_cons (pg_name (i := 4) sc_first_stride.nd rfl (Or.inl rfl)) (pgs_cons (pg_name (i := 5) sc_first_stride.nd rfl (Or.inl rfl)) pgs_nil))))
  (pss_one (ps_if (pt_cmpR op_gt (pe_hs h__count_between hr rfl (pa_cons (pv 3) (pa_cons (pv 1) (pa_cons (pv 4) (pa_cons (pv 5) pa_nil))))) pe_int (nomark _))
  (pss_one (ps_ret (pe_hs h__first_between hr rfl (pa_cons (pv 3) (pa_cons (pv 1) (pa_cons (pv 4) (pa_cons (pv 5) pa_nil)))))))
  pss_nil))))
  (pss_one (ps_ret pe_non))), ?_⟩
    walk_at "rd"
    refine ⟨⟨xs, .inl (.inl hq)⟩, ?_⟩
    refine run_forL xs (fun i σ G => ∃ v3 v4 v5 : Option V, σ = [some (.ref q), some (.int st), some (optV many), v3, v4, v5] ∧ Ex H G ∧ ∀ r ∈ ps.take i, NoneIn r st many) ?_ ?_ ?_ ?_
    · exact ⟨_, _, _, rfl, Ex.refl _, fun r hr => by simp at hr⟩
    · rintro i σ G _ ⟨_, _, _, rfl, e, _⟩
      exact .inl (.inl (e _ _ hq))
    · rintro i v σ G hi ⟨v3, v4, v5, rfl, eG, no⟩
      obtain ⟨p, hp, hP⟩ := hA.get i v hi
      have pm := List.mem_of_getElem? hp
      have pb := hb.b p pm
      have hPG := hP.ex eG
      obtain ⟨l0, lb⟩ := lo_bd pb s0
      have hib := hi_bd pb s0 mb
      have split : ps = ps.take i ++ p :: ps.drop (i + 1) := by
        have h1 := List.take_append_drop i ps
        have h2 : ps.drop i = p :: ps.drop (i + 1) := by
          rw [List.drop_eq_getElem?_toList_append, hp]
          rfl
        rw [h2] at h1
        exact h1.symm
      walk_at "rd"
      refine ⟨v, p, st, many, rfl, hPG, pb, s0, sb, fun t G1 e1 ht => ?_⟩
      walk_at "rd"
      refine go_gtup (.inl (.inl ht)) rfl ?_
      refine ⟨_, _, rfl, _, _, rfl, rfl, ?_⟩
      dsimp only
      walk_at "rd"
      refine ⟨v, p, st, loI p st, hiI p st many, rfl, hPG.ex e1, pb, s0, sb, lb, hib, fun G2 e2 => ?_⟩
      walk_at "rd"
      refine ite2 (fun c => ?_) (fun c => ?_)
      · have c : cntBt p st (loI p st) (hiI p st many) > 0 := of_decide_eq_true c
        walk_at "rd"
        refine ⟨v, p, st, loI p st, hiI p st many, rfl, (hPG.ex e1).ex e2, pb, s0, sb, lb, hib, c, fun j G3 e3 j1 j2 j3 j4 => ?_⟩
        walk_at "rd"
        refine k (some j) _ (((eG.trans e1).trans e2).trans e3) ?_
        have K0 := hb.ok
        rw [split] at K0 ⊢
        exact stride_some s0 K0 no j1 j2 j3 j4
      · have c : ¬ cntBt p st (loI p st) (hiI p st many) > 0 := fun z => c (decide_eq_true z)
        walk_at "rd"
        refine ⟨_, _, _, rfl, (eG.trans e1).trans e2, fun r hr => ?_⟩
        rw [List.take_succ, hp] at hr
        rcases List.mem_append.mp hr with hr | hr
        · exact no r hr
        · have : r = p := by simpa using hr
          subst this
          intro j a1 a2
          cases q : spB r.sp (j * st % r.per) with
          | false => rfl
          | true => exact absurd (bt_pos.mpr ⟨j, a1, a2, q⟩) c
    · rintro σ G ⟨v3, v4, v5, rfl, eG, no⟩
      rw [hA.len, List.take_length] at no
      walk_at "rd"
      exact k none _ eG (stride_none s0 fun r hr => ⟨(hb.b r hr).ok, no r hr⟩)
end
end Kx

set_option Elab.async false
set_option linter.all false
set_option maxRecDepth 100000
set_option maxHeartbeats 4000000

namespace Kx
open PySem PySem.Spec PyProof.Rows L2 HX
open Evl (Ex)
local macro_rules | `(tactic| walk_at "side") => `(tactic| first | assumption | ((try dsimp only); first | assumption | decide +kernel | omega | exact ⟨by decide, by decide⟩ | (left; decide) | (left; omega) | (refine Or.inl ⟨?_, ?_⟩ <;> omega) | (refine Or.inr ⟨?_, ?_⟩ <;> omega)))
local macro_rules | `(tactic| walk_at "heap") => `(tactic| first | assumption | exact upd_same | exact Or.inl (by assumption) | exact Or.inl upd_same)
local macro_rules | `(tactic| walk_at "item") => `(tactic| first | exact rfl | exact atI_nat (j := 0) rfl | exact atI_nat (j := 1) rfl | exact atI_nat (j := 2) rfl | assumption)
local macro_rules | `(tactic| walk_at "rd") => `(tactic| repeat (first
  | ((with_reducible refine' go_var ?hv ?_); (case hv => exact rfl))
  | with_reducible refine' go_c ?_
  | with_reducible refine' go_op ?_
  | with_reducible refine' go_seq ?_
  | with_reducible refine' go_asg ?_
  | with_reducible refine' go_name ?_
  | with_reducible refine' go_cons ?_
  | with_reducible refine' go_nil ?_
  | with_reducible refine' go_cb ?_
  | with_reducible refine' go_call ?_
  | with_reducible refine' go_ifS ?_
  | with_reducible refine' go_test ?_
  | with_reducible refine' go_bl ?_
  | with_reducible refine' go_ret ?_
  | with_reducible refine' go_I0 ?_
  | ((with_reducible refine' go_I ?cc ?_); (case cc => walk_at "side"))
  | ((with_reducible refine' go_ixL ?hh ?hk ?_); (case hh => walk_at "heap"); (case hk => walk_at "item"))
  | ((with_reducible refine' go_ixT ?hh ?hk ?_); (case hh => walk_at "heap"); (case hk => walk_at "item"))
  | ((with_reducible refine' go_lenL ?hh ?_); (case hh => walk_at "heap"))
  | ((with_reducible refine' go_lenT ?hh ?_); (case hh => walk_at "heap"))
  | ((with_reducible refine' go_setL ?hh ?hk ?_); (case hh => walk_at "heap"); (case hk => walk_at "item"))
  | with_reducible refine' go_abs ?_
  | with_reducible refine' go_max ?_
  | with_reducible refine' go_min ?_
  | with_reducible refine' go_int ?_
  | with_reducible refine' go_intB ?_
  | (with_reducible refine' go_eq rfl ?_)
  | (with_reducible refine' go_ne rfl ?_)
  | with_reducible refine' go_isN ?_
  | with_reducible refine' go_notN ?_
  | with_reducible refine' go_if ?_
  | with_reducible refine' go_sub ?_
  | with_reducible refine' go_par ?_
  | with_reducible refine' go_sl ?_
  | with_reducible refine' go_part ?_
  | with_reducible refine' go_pint ?_
  | with_reducible refine' go_nopart ?_
  | ((with_reducible refine' go_lenL ?hh ?_); (case hh => walk_at "heap"))
  | ((with_reducible refine' go_lenT ?hh ?_); (case hh => walk_at "heap"))
  | ((with_reducible refine' go_lenS ?hh ?_); (case hh => assumption))
  | with_reducible refine' go_gcons ?_
  | with_reducible refine' go_gnil ?_
  | with_reducible refine' go_kw ?_
  | with_reducible refine' go_par2 ?_
  | with_reducible refine' go_next ?_
  | with_reducible refine' go_drop ?_
  | with_reducible refine' go_and ?_
  | with_reducible refine' go_or ?_
  | with_reducible refine' go_not ?_
  | with_reducible refine' go_B ?_
  | with_reducible refine' go_andV ?_
  | with_reducible refine' go_orV ?_
  | with_reducible refine' go_notV ?_
  | with_reducible refine' go_chain ?_
  | with_reducible refine' go_un ?_
  | with_reducible refine' go_U ?_
  | with_reducible refine' go_bm ?_
  | with_reducible refine' go_tup ?_
  | with_reducible refine' go_lst ?_
  | with_reducible refine' go_forR1 ?_
  | with_reducible refine' go_forR2 ?_
  | with_reducible refine' go_forL ?_
  | with_reducible refine' go_forT ?_
  | with_reducible refine' go_forE ?_
  | with_reducible refine' go_lcR1 ?_
  | with_reducible refine' go_lcL ?_
  | with_reducible refine' go_lcT ?_
  | ((with_reducible refine' go_tyL ?hh ?_); (case hh => walk_at "heap"))
  | ((with_reducible refine' go_new ?hz ?_); (case hz => exact Nat.le_of_ble_eq_true rfl))
  | (with_reducible refine' ⟨_, rfl, ?_⟩)
  ))
--MACEND
/-! ### lists of signals -/
def fltG : List PyData → Nat → Option Nat
  | [], _ => none
  | d :: ds, i => if isNat d = true then fltG ds (i + 1) else some i
def faultG : PyData → Option (Option Nat)
  | .list ds => if decide (1 ≤ ds.length) && decide (ds.length ≤ 4) then (match fltG ds 0 with | some i => some (some i) | none => none) else some none
  | _ => some none
theorem fltG_all : ∀ (ds : List PyData) (i j : Nat), (∀ d ∈ ds.take j, isNat d = true) → fltG ds i = fltG (ds.drop j) (i + j)
  | ds, i, 0, _ => by simp
  | [], i, j + 1, _ => by simp [fltG]
  | d :: ds, i, j + 1, h => by
    have h1 : isNat d = true := h d (by simp)
    show (if isNat d = true then fltG ds (i + 1) else some i) = _
    rw [if_pos h1, fltG_all ds (i + 1) j (fun x hx => h x (by simp [hx])), List.drop_succ_cons, show i + 1 + j = i + (j + 1) by omega]
theorem fltG_ints : ∀ {ds : List PyData} {i : Nat}, fltG ds i = none → ∃ ns : List Int, ds = ns.map PyData.int ∧ ∀ n ∈ ns, 0 ≤ n
  | [], _, _ => ⟨[], rfl, fun _ h => nomatch h⟩
  | d :: ds, i, h => by
    have h : (if isNat d = true then fltG ds (i + 1) else some i) = none := h
    split at h
    · rename_i hd
      obtain ⟨n, rfl, n0⟩ := nat_int hd
      obtain ⟨ns, en, hn⟩ := fltG_ints (by assumption : fltG ds (i + 1) = none)
      exact ⟨n :: ns, by rw [en]; rfl, fun x hx => by
        rcases List.mem_cons.mp hx with rfl | hx
        · exact n0
        · exact hn x hx⟩
    · cases h
theorem faultG_ints {d : PyData} (h : faultG d = none) : ∃ ns : List Int, d = .list (ns.map PyData.int) ∧ (∀ n ∈ ns, 0 ≤ n) ∧ 1 ≤ ns.length ∧ ns.length ≤ 4 := by
  unfold faultG at h
  split at h
  · rename_i ds
    split at h
    · rename_i hl
      rw [Bool.and_eq_true, decide_eq_true_iff, decide_eq_true_iff] at hl
      split at h
      · cases h
      · rename_i hf
        obtain ⟨ns, rfl, hn⟩ := fltG_ints hf
        rw [List.length_map] at hl
        exact ⟨ns, rfl, hn, hl⟩
    · cases h
  · cases h
theorem fltG_right : ∀ {ns : List Int} {i : Nat}, (∀ n ∈ ns, 0 ≤ n) → fltG (ns.map PyData.int) i = none
  | [], _, _ => rfl
  | n :: ns, i, h => by
    show (if isNat (.int n) = true then fltG (ns.map PyData.int) (i + 1) else some i) = none
    rw [if_pos (show isNat (.int n) = true from decide_eq_true (h n List.mem_cons_self)), fltG_right fun x hx => h x (List.mem_cons_of_mem _ hx)]
theorem faultG_right {ns : List Int} (h : ∀ n ∈ ns, 0 ≤ n) (h1 : 1 ≤ ns.length) (h4 : ns.length ≤ 4) : faultG (.list (ns.map PyData.int)) = none := by
  unfold faultG
  dsimp only
  rw [List.length_map, decide_eq_true h1, decide_eq_true h4, fltG_right h]
  rfl
def spSigsE (C : Addr) : Sp := fun vs H Q E => ∃ x d, vs = [x] ∧ Dq H x d ∧ (faultG d = none → ∀ H', Ex H H' → Q .non H') ∧ (∀ f, faultG d = some f → ∀ H' dd, Ex H H' → H dd = none → H' dd = some (.xd [("index", fltV f)]) → E (.ref C) (some dd) H')
def isStep : PyData → Bool
  | .int i => !decide (i = 0)
  | _ => false
theorem step_of {d : PyData} (h : isStep d = true) : ∃ i : Int, d = .int i ∧ i ≠ 0 := by
  cases d <;> simp [isStep] at h
  exact ⟨_, rfl, h⟩
section
variable {P : Program} {w : World} {K : PySem.W.Frag} {mg : Str → Option Value} {base : Heap} {C fI : Addr}
abbrev s_check_signals : Stmt := top 25
theorem sc_check_signals : FnScope ["signals", "index", "signal"] ["signals"] (defScope s_check_signals) := ⟨rfl, rfl, rfl, by decide +kernel, rfl, by decide +kernel, by decide +kernel⟩
theorem ok_check_signals {f : Addr} {fd : FuncData} {t : Tok} (F : Fun K "check_signals" "check_signals" s_check_signals f fd) (T_InvalidSignals : SupX.ErrTxt P K mg "InvalidSignals" "index" C fI) (m_isinstance : mg "isinstance" = none) (m_list : mg "list" = none) (m_enumerate : mg "enumerate" = none) (m_len : mg "len" = none) (g_MOST_SIGNALS : mg "MOST_SIGNALS" = some (.int 4 t)) (h_is_natural : Has P w K mg base 2 "is_natural" (spLook isNat)) : FnOk P w K mg base (L2N.CX P w) 5 f fd ["signals"] (spSigsE C) := by
  refine okXN F sc_check_signals (fun vs H Q E h => ?_) (fun cdv A outer s H vs Q E hr h => ?_)
  · obtain ⟨x, d, rfl, _⟩ := h
    rfl
  · obtain ⟨x, d, rfl, hd, k1, k2⟩ := h
    refine ⟨_, (pss_cons (ps_if (PW.pt (pw_or (pt_not (pt_val (pe_callB call_isi rfl m_isinstance (by decide +kernel) (pa_cons (pv 0) (pa_cons (pe_bltn (v := .ty "list") (u := .type "list") rfl m_list (by decide +kernel) rfl) pa_nil))))) (pw_or1 (pt_not (pt_chain op_le op_le pe_int (pe_callB call_lenQ rfl m_len PySem.boot_len (pa_cons (pv 0) pa_nil)) (pe_glob (v := .int 4) rfl g_MOST_SIGNALS ⟨_, rfl⟩))))))
  (pss_one (ps_raiseErrN rfl T_InvalidSignals hr (L2N.takes_of rfl rfl rfl rfl) (pa_cons pe_non pa_nil)))
  pss_nil)
  (pss_one (ps_for (passes_of rfl) rfl (pi_enum (by rfl) m_enumerate (pa_cons (pv 0) pa_nil)) (pg_tup (by rfl) (pgs_cons (pg_name (i := 1) sc_check_signals.nd rfl (Or.inl rfl)) (pgs_cons (pg_name (i := 2) sc_check_signals.nd rfl (Or.inl rfl)) pgs_nil)))
  (pss_one (ps_if (pt_not (pt_val (pe_hs h_is_natural hr rfl (pa_cons (pv 2) pa_nil))))
  (pss_one (ps_raiseErrN rfl T_InvalidSignals hr (L2N.takes_of rfl rfl rfl rfl) (pa_cons (pv 1) pa_nil)))
  pss_nil))))), ?_⟩
    have fresh : ∀ {G : Hp} {dd : Addr}, Ex H G → G dd = none → H dd = none := fun {G dd} e n => by
      cases z : H dd with
      | none => rfl
      | some o => rw [e _ _ z] at n; cases n
    have bad : ∀ G, Ex H G → faultG d = some none → ∀ dd, G dd = none → E (.ref C) (some dd) (upd G dd (.xd [("index", .non)])) := fun G e h dd nd => k2 none h _ dd (e.trans (Ex.new nd)) (fresh e nd) upd_same
    walk_at "rd"
    refine go_isi hd (kit_list d) ?_
    walk_at "rd"
    rcases list_or d with ⟨ds, rfl⟩ | hn
    · obtain ⟨a, xs, rfl, ha, hda⟩ := hd.listAt
      have hl := hda.len
      refine iteF ?_
      walk_at "rd"
      have fk : faultG (.list ds) = if (decide (1 ≤ ds.length) && decide (ds.length ≤ 4)) = true then (match fltG ds 0 with | some i => some (some i) | none => none) else some none := rfl
      by_cases c1 : 1 ≤ ds.length
      · rw [show decide ((1 : Int) ≤ (xs.length : Int)) = true from decide_eq_true (by omega)]
        refine iteT ?_
        walk_at "rd"
        by_cases c6 : ds.length ≤ 4
        · rw [show decide ((xs.length : Int) ≤ 4) = true from decide_eq_true (by omega)]
          refine iteF ?_
          walk_at "rd"
          rw [if_pos (by rw [decide_eq_true c1, decide_eq_true c6]; rfl)] at fk
          refine ⟨a, xs, rfl, .inl ha, ?_⟩
          refine run_forE xs (fun i σ G => ∃ (v1 v2 : Option V), σ = [some (.ref a), v1, v2] ∧ Ex H G ∧ ∀ d ∈ ds.take i, isNat d = true) ?_ ?_ ?_ ?_
          · exact ⟨_, _, rfl, Ex.refl _, fun d h => by simp at h⟩
          · rintro i σ G _ ⟨v1, v2, rfl, e, _⟩
            exact .inl (Evl.ex_rd e ha)
          · rintro i y σ G Tp hi ⟨v1, v2, rfl, e, hs⟩ hT
            obtain ⟨sd, hsd, hds⟩ := hda.get hi
            have e2 := e.trans (Ex.new (o := HO.tup [.int (i : Nat), y]) hT)
            have tk : ds.take (i + 1) = ds.take i ++ [sd] := by rw [List.take_succ, hsd]; rfl
            have hdrop : ds.drop i = sd :: ds.drop (i + 1) := by rw [List.drop_eq_getElem?_toList_append, hsd]; rfl
            refine go_gtup (.inl (.inl upd_same)) rfl ?_
            walk_at "rd"
            refine look_go (hds.ex e2) fun H2 e3 => ?_
            walk_at "rd"
            cases hst : isNat sd with
            | false =>
              refine iteT ?_
              refine ⟨_, rfl, _, rfl, fun dd nd => ?_⟩
              have e4 := e2.trans e3
              refine k2 (some i) ?_ _ dd (e4.trans (Ex.new nd)) (fresh e4 nd) upd_same
              rw [fk, fltG_all ds 0 i hs, hdrop, fltG, hst]
              simp
            | true =>
              refine iteF ?_
              refine ⟨_, _, rfl, e2.trans e3, fun d hd => ?_⟩
              rw [tk] at hd
              rcases List.mem_append.mp hd with hd | hd
              · exact hs d hd
              · rw [List.mem_singleton.mp hd]
                exact hst
          · rintro σ G ⟨v1, v2, rfl, e, hs⟩
            rw [hl] at hs
            walk_at "rd"
            refine k1 ?_ _ e
            rw [fk, fltG_all ds 0 ds.length hs, List.drop_length]
            rfl
        · rw [show decide ((xs.length : Int) ≤ 4) = false from decide_eq_false (by omega)]
          refine iteT ?_
          refine ⟨_, rfl, fun dd nd => ?_⟩
          refine bad _ (Ex.refl _) ?_ dd nd
          rw [fk, if_neg (by rw [decide_eq_false c6, Bool.and_false]; exact fun z => nomatch z)]
      · rw [show decide ((1 : Int) ≤ (xs.length : Int)) = false from decide_eq_false (by omega)]
        refine iteF ?_
        refine ⟨false, rfl, iteT ?_⟩
        refine ⟨_, rfl, fun dd nd => ?_⟩
        refine bad _ (Ex.refl _) ?_ dd nd
        rw [fk, if_neg (by rw [decide_eq_false c1, Bool.false_and]; exact fun z => nomatch z)]
    · rw [hn]
      refine iteT (iteT ?_)
      refine ⟨_, rfl, fun dd nd => ?_⟩
      refine bad _ (Ex.refl _) ?_ dd nd
      cases d <;> first | rfl | simp [pList] at hn
abbrev s_check_step : Stmt := top 27
theorem sc_check_step : FnScope ["step"] ["step"] (defScope s_check_step) := ⟨rfl, rfl, rfl, by decide +kernel, rfl, by decide +kernel, by decide +kernel⟩
theorem ok_check_step {CN : Addr} {f : Addr} {fd : FuncData} (F : Fun K "check_step" "check_step" s_check_step f fd) (T_InvalidNumber : Err K mg "InvalidNumber" CN) (h_is_integer : Has P w K mg base 1 "is_integer" (spLook isInt)) :
    FnOk P w K mg base (L2N.CX P w) 2 f fd ["step"] (spCheckE isStep CN) := by
  refine okXN F sc_check_step (fun vs H Q E h => ?_) (fun cdv A outer s H vs Q E hr h => ?_)
  · obtain ⟨x, d, rfl, _⟩ := h
    rfl
  · obtain ⟨x, d, rfl, hd, k1, k2⟩ := h
    refine ⟨_, (pss_one (ps_if (PW.pt (pw_or (pt_not (pt_val (pe_hs h_is_integer hr rfl (pa_cons (pv 0) pa_nil)))) (pw_or1 (pt_cmpR op_eq (pv 0) pe_int (nomark _)))))
  (pss_one (L2N.ps_raise rfl (L2N.takes_of rfl rfl rfl rfl) (L2N.pmk_own PySem.F.excBase_ValueError T_InvalidNumber.x T_InvalidNumber.g T_InvalidNumber.k (raises_own T_InvalidNumber.b T_InvalidNumber.t) rfl)))
  pss_nil)), ?_⟩
    walk_at "rd"
    refine look_go hd fun H1 e1 => ?_
    walk_at "rd"
    cases q : isInt d with
    | true =>
      obtain ⟨i, rfl⟩ : ∃ i, d = .int i := by cases d <;> simp [isInt] at q; exact ⟨_, rfl⟩
      cases hd
      refine iteF ?_
      walk_at "rd"
      refine ite2 (fun c => ?_) (fun c => ?_)
      · have c : i = 0 := by simpa using c
        exact k2 (by simp [isStep, c]) _ e1
      · have c : ¬ i = 0 := fun z => c (by simp [z])
        walk_at "rd"
        exact k1 (by simp [isStep, c]) _ e1
    | false =>
      refine iteT (iteT ?_)
      exact k2 (by cases d <;> simp_all [isStep, isInt]) _ e1
def spScan (CR CG CB CD : Addr) : Sp := fun vs H Q E => ∃ x g b y dx dg db dy, vs = [x, g, b, y] ∧ Dq H x dx ∧ Dq H g dg ∧ Dq H b db ∧ Dq H y dy ∧
  (∀ f, fault dx = some f → ∀ H' dd, Ex H H' → H dd = none → H' dd = some (.xd [("index", fltV f)]) → E (.ref CR) (some dd) H') ∧
  (fault dx = none → ∀ f, faultG dg = some f → ∀ H' dd, Ex H H' → H dd = none → H' dd = some (.xd [("index", fltV f)]) → E (.ref CG) (some dd) H') ∧
  (fault dx = none → faultG dg = none → isBand db = false → ∀ H', Ex H H' → E (.ref CB) none H') ∧
  (fault dx = none → faultG dg = none → isBand db = true → isInt dy = false → ∀ H', Ex H H' → E (.ref CD) none H') ∧
  (fault dx = none → faultG dg = none → isBand db = true → isInt dy = true → ∀ H', Ex H H' → Q .non H')
abbrev s__check_scan : Stmt := top 57
theorem sc__check_scan : FnScope ["receiver", "signals", "band", "dial"] ["receiver", "signals", "band", "dial"] (defScope s__check_scan) := ⟨rfl, rfl, rfl, by decide +kernel, rfl, by decide +kernel, by decide +kernel⟩
theorem ok_check_scan {CR CB CD : Addr} {f : Addr} {fd : FuncData} (F : Fun K "_check_scan" "_check_scan" s__check_scan f fd) (h_check_receiver : HasX P w K mg base 5 "check_receiver" (spRecvE CR)) (h_check_signals : HasX P w K mg base 5 "check_signals" (spSigsE C)) (h_check_band : HasX P w K mg base 4 "check_band" (spCheckE isBand CB)) (h_check_dial : HasX P w K mg base 2 "check_dial" (spCheckE isInt CD)) :
    FnOk P w K mg base (L2N.CX P w) 6 f fd ["receiver", "signals", "band", "dial"] (spScan CR C CB CD) := by
  refine okXN F sc__check_scan (fun vs H Q E h => ?_) (fun cdv A outer s H vs Q E hr h => ?_)
  · obtain ⟨x, g, b, y, dx, dg, db, dy, rfl, _⟩ := h
    rfl
  · obtain ⟨x, g, b, y, dx, dg, db, dy, rfl, hx, hg, hb, hy, kr, kg, kb, kd, k⟩ := h
    refine ⟨_, (pss_cons (ps_expr (pe_hsS h_check_receiver hr rfl (fun σ => L2N.passAt (L2N.takes_of rfl rfl rfl rfl) σ) (pa_cons (pv 0) pa_nil)))
  (pss_cons (ps_expr (pe_hsS h_check_signals hr rfl (fun σ => L2N.passAt (L2N.takes_of rfl rfl rfl rfl) σ) (pa_cons (pv 1) pa_nil)))
  (pss_cons (ps_expr (pe_hsS h_check_band hr rfl (fun σ => L2N.passAt (L2N.takes_of rfl rfl rfl rfl) σ) (pa_cons (pv 2) pa_nil)))
  (pss_one (ps_expr (pe_hsS h_check_dial hr rfl (fun σ => L2N.passAt (L2N.takes_of rfl rfl rfl rfl) σ) (pa_cons (pv 3) pa_nil))))))), ?_⟩
    walk_at "rd"
    refine go_call3 ?_
    walk_at "rd"
    refine ⟨x, dx, rfl, hx, fun h0 H1 e1 => ?_, fun f h0 H' dd e n q => kr f h0 H' dd e n q⟩
    walk_at "rd"
    refine go_call3 ?_
    walk_at "rd"
    have back : ∀ {dd : Addr}, H1 dd = none → H dd = none := fun {dd} n => by
      cases z : H dd with
      | none => rfl
      | some o => rw [e1 _ _ z] at n; cases n
    refine ⟨g, dg, rfl, hg.ex e1, fun h1 H2 e2 => ?_, fun f h1 H' dd e n q => kg h0 f h1 H' dd (e1.trans e) (back n) q⟩
    walk_at "rd"
    refine go_call3 ?_
    walk_at "rd"
    refine go_checkE (hb.ex (e1.trans e2)) (fun h2 H3 e3 => ?_) fun h2 H3 e3 => kb h0 h1 h2 _ ((e1.trans e2).trans e3)
    walk_at "rd"
    refine go_call3 ?_
    walk_at "rd"
    refine go_checkE (hy.ex ((e1.trans e2).trans e3)) (fun h3 H4 e4 => ?_) fun h3 H4 e4 => kd h0 h1 h2 h3 _ (((e1.trans e2).trans e3).trans e4)
    walk_at "rd"
    exact k h0 h1 h2 h3 _ (((e1.trans e2).trans e3).trans e4)
def wayO (step : Int) : Int := if step > 0 then 1 else -1
theorem wayO_or (step : Int) : wayO step = 1 ∨ wayO step = -1 := by unfold wayO; split <;> simp
def spHA : Sp := fun vs H Q _ => ∃ x b ss rate sig dial step b0 b1, vs = [x, .int sig, b, .int dial, .int step] ∧ Dq H x (radD ss rate) ∧ PrR H b (b0, b1) ∧ fault (radD ss rate) = none ∧ splitD ss ≠ none ∧ (∀ s ∈ ss, s.sz (2 ^ 320)) ∧ sig.natAbs ≤ 2 ^ 320 ∧ dial.natAbs ≤ 2 ^ 320 ∧
  0 ≤ b0 ∧ b0 ≤ b1 ∧ b1.natAbs < 2 ^ 1990 ∧ (∀ r, rate = some r → Sm r) ∧ ∀ q H' ps, Ex H H' → Lpc H' q ps → PsB ps → (∀ x, 0 ≤ x → hasB ps x = dialF ss rate sig b0 b1 (dial + wayO step * x)) → Q (.ref q) H'
abbrev s__heard_along : Stmt := top 58
theorem sc__heard_along : FnScope ["receiver", "signal", "band", "dial", "step", "way"] ["receiver", "signal", "band", "dial", "step"] (defScope s__heard_along) := ⟨rfl, rfl, rfl, by decide +kernel, rfl, by decide +kernel, by decide +kernel⟩
theorem ok_heard_along {f : Addr} {fd : FuncData} (F : Fun K "_heard_along" "_heard_along" s__heard_along f fd) (h_band_pieces : Has P w K mg base 4 "band_pieces" spBandP) (h_dial_line : Has P w K mg base 6 "dial_line" spDL) :
    FnOk P w K mg base CX0 7 f fd ["receiver", "signal", "band", "dial", "step"] spHA := by
  refine F.ok sc__heard_along (fun vs H Q E h => ?_) (fun cdv A outer s H vs Q E hr h => ?_)
  · obtain ⟨x, b, ss, rate, sig, dial, step, b0, b1, rfl, _⟩ := h
    rfl
  · obtain ⟨x, b, ss, rate, sig, dial, step, b0, b1, rfl, hx, hb, hf, hsp, hz, hs, hd, h0, h1, hbb, sm, k⟩ := h
    refine ⟨_, (pss_cons (ps_set (i := 5) sc__heard_along.nd rfl (Or.inl rfl) (pe_ifExp (pt_cmpR op_gt (pv 4) pe_int (nomark _)) pe_int (pe_un un_neg pe_int)))
  (pss_one (ps_ret (pe_hs h_band_pieces hr rfl (pa_cons (pe_hs h_dial_line hr rfl (pa_cons (pv 0) (pa_cons (pv 1) (pa_cons (pv 3) (pa_cons (pv 5) pa_nil))))) (pa_cons (pe_ix ix_tup (pv 0) pe_int (fun _ _ => rfl)) (pa_cons (pv 2) pa_nil))))))), ?_⟩
    obtain ⟨_, l8, hP, r2⟩ := rad_ok hf
    obtain ⟨t, ht⟩ := Option.ne_none_iff_exists'.mp hsp
    obtain ⟨p, a, q⟩ := t
    have nq := split_nod hf ht
    obtain ⟨es, np⟩ := splitD_some ht
    have hw := wayO_or step
    refine cut_s (fun σ G => σ = [some x, some (.int sig), some b, some (.int dial), some (.int step), some (.int (wayO step))] ∧ G = H) (fun D' _ _ _ hnx => ?_) ?_
    · walk_at "rd"
      unfold wayO at hnx
      refine ite2 (fun c => ?_) (fun c => ?_)
      · have c : step > 0 := of_decide_eq_true c
        rw [if_pos c] at hnx
        walk_at "rd"
        exact hnx _ _ ⟨rfl, rfl⟩
      · have c : ¬ step > 0 := fun z => c (decide_eq_true z)
        rw [if_neg c] at hnx
        walk_at "rd"
        exact hnx _ _ ⟨rfl, rfl⟩
    rintro _ _ ⟨rfl, rfl⟩
    walk_at "rd"
    refine ⟨x, ss, rate, sig, dial, wayO step, p, a, q, rfl, hx, ht, l8, hw, fun l H1 e1 _ hL => ?_⟩
    obtain ⟨c, xs, rfl, hc, hda⟩ := Dq.tupleAt (ds := [.list (ss.map Stg.d), rateD rate]) (hx.ex e1)
    obtain ⟨v1, v2, d1, d2, rfl, ed, hv1, hv2⟩ := dqa2 hda rfl
    obtain ⟨rfl, rfl⟩ : PyData.list (ss.map Stg.d) = d1 ∧ rateD rate = d2 := by simpa using ed
    obtain rfl := rate_at hv2
    walk_at "rd"
    have wl : (∀ s ∈ lineL p a q sig dial (wayO step), Wy s) ∧ (lineL p a q sig dial (wayO step)).length ≤ 20000 := by
      unfold lineL
      cases lastT 0 p (some sig) with
      | none => exact ⟨fun _ h => (nomatch h), Nat.zero_le _⟩
      | some m =>
        dsimp only
        refine ⟨(par_of (cov_str (fun s hs a b e => by
          rcases List.mem_cons.mp hs with rfl | hs
          · cases e
          · exact hP s (by rw [es]; simp [hs]) a b e))).w, ?_⟩
        rw [parted_len]
        refine Nat.le_trans (str_ok 0 _).2 (Nat.le_trans (Nat.pow_le_pow_right (by decide) (show (Stg.dial (wayO step * ((m - a) - dial)) :: q).length ≤ 8 by rw [es, List.length_append, List.length_cons] at l8; rw [List.length_cons]; omega)) (by decide))
    refine ⟨l, rate, b, b0, b1, _, rfl, hL, wl.1, wl.2, hb.ex e1, h0, h1, r2, fun q' H2 ps e2 _ hps hc hl => ?_⟩
    obtain ⟨o, m⟩ := line_ok hf ht hw hz hs hd h0 h1 hbb sm hc hl
    exact k q' H2 ps (e1.trans e2) hps o m
end
end Kx

set_option Elab.async false
set_option linter.all false
set_option maxRecDepth 100000
set_option maxHeartbeats 4000000

namespace Kx
open PySem PySem.Spec PyProof.Rows L2 HX
open Evl (Ex)
local macro_rules | `(tactic| walk_at "side") => `(tactic| first | assumption | ((try dsimp only); first | assumption | decide +kernel | omega | exact ⟨by decide, by decide⟩ | (left; decide) | (left; omega) | (refine Or.inl ⟨?_, ?_⟩ <;> omega) | (refine Or.inr ⟨?_, ?_⟩ <;> omega)))
local macro_rules | `(tactic| walk_at "heap") => `(tactic| first | assumption | exact upd_same | exact Or.inl (by assumption) | exact Or.inl upd_same)
local macro_rules | `(tactic| walk_at "item") => `(tactic| first | exact rfl | exact atI_nat (j := 0) rfl | exact atI_nat (j := 1) rfl | exact atI_nat (j := 2) rfl | assumption)
local macro_rules | `(tactic| walk_at "rd") => `(tactic| repeat (first
  | ((with_reducible refine' go_var ?hv ?_); (case hv => exact rfl))
  | with_reducible refine' go_c ?_
  | with_reducible refine' go_op ?_
  | with_reducible refine' go_seq ?_
  | with_reducible refine' go_asg ?_
  | with_reducible refine' go_name ?_
  | with_reducible refine' go_cons ?_
  | with_reducible refine' go_nil ?_
  | with_reducible refine' go_cb ?_
  | with_reducible refine' go_call ?_
  | with_reducible refine' go_ifS ?_
  | with_reducible refine' go_test ?_
  | with_reducible refine' go_bl ?_
  | with_reducible refine' go_ret ?_
  | with_reducible refine' go_I0 ?_
  | ((with_reducible refine' go_I ?cc ?_); (case cc => walk_at "side"))
  | ((with_reducible refine' go_ixL ?hh ?hk ?_); (case hh => walk_at "heap"); (case hk => walk_at "item"))
  | ((with_reducible refine' go_ixT ?hh ?hk ?_); (case hh => walk_at "heap"); (case hk => walk_at "item"))
  | ((with_reducible refine' go_lenL ?hh ?_); (case hh => walk_at "heap"))
  | ((with_reducible refine' go_lenT ?hh ?_); (case hh => walk_at "heap"))
  | ((with_reducible refine' go_setL ?hh ?hk ?_); (case hh => walk_at "heap"); (case hk => walk_at "item"))
  | with_reducible refine' go_abs ?_
  | with_reducible refine' go_max ?_
  | with_reducible refine' go_min ?_
  | with_reducible refine' go_int ?_
  | with_reducible refine' go_intB ?_
  | (with_reducible refine' go_eq rfl ?_)
  | (with_reducible refine' go_ne rfl ?_)
  | with_reducible refine' go_isN ?_
  | with_reducible refine' go_notN ?_
  | with_reducible refine' go_if ?_
  | with_reducible refine' go_sub ?_
  | with_reducible refine' go_par ?_
  | with_reducible refine' go_sl ?_
  | with_reducible refine' go_part ?_
  | with_reducible refine' go_pint ?_
  | with_reducible refine' go_nopart ?_
  | ((with_reducible refine' go_lenL ?hh ?_); (case hh => walk_at "heap"))
  | ((with_reducible refine' go_lenT ?hh ?_); (case hh => walk_at "heap"))
  | ((with_reducible refine' go_lenS ?hh ?_); (case hh => assumption))
  | with_reducible refine' go_gcons ?_
  | with_reducible refine' go_gnil ?_
  | with_reducible refine' go_kw ?_
  | with_reducible refine' go_par2 ?_
  | with_reducible refine' go_next ?_
  | with_reducible refine' go_drop ?_
  | with_reducible refine' go_and ?_
  | with_reducible refine' go_or ?_
  | with_reducible refine' go_not ?_
  | with_reducible refine' go_B ?_
  | with_reducible refine' go_andV ?_
  | with_reducible refine' go_orV ?_
  | with_reducible refine' go_notV ?_
  | with_reducible refine' go_chain ?_
  | with_reducible refine' go_un ?_
  | with_reducible refine' go_U ?_
  | with_reducible refine' go_bm ?_
  | with_reducible refine' go_tup ?_
  | with_reducible refine' go_lst ?_
  | with_reducible refine' go_forR1 ?_
  | with_reducible refine' go_forR2 ?_
  | with_reducible refine' go_forL ?_
  | with_reducible refine' go_forT ?_
  | with_reducible refine' go_forE ?_
  | with_reducible refine' go_lcR1 ?_
  | with_reducible refine' go_lcL ?_
  | with_reducible refine' go_lcT ?_
  | ((with_reducible refine' go_tyL ?hh ?_); (case hh => walk_at "heap"))
  | ((with_reducible refine' go_new ?hz ?_); (case hz => exact Nat.le_of_ble_eq_true rfl))
  | (with_reducible refine' ⟨_, rfl, ?_⟩)
  ))
--MACEND
/-- some signal of a list is heard at the dial with an index -/
def stopB (ss : List Stg) (rate : Option Int) (sigs : List Int) (b0 b1 dial step : Int) (i : Int) : Bool := sigs.any fun s => dialF ss rate s b0 b1 (dial + step * i)
theorem way_abs (step i : Int) : wayO step * (i * (if step < 0 then -step else step)) = step * i := by
  unfold wayO
  by_cases h : step > 0
  · rw [if_pos h, if_neg (by omega), Int.one_mul, Int.mul_comm]
  · by_cases h2 : step < 0
    · rw [if_neg h, if_pos h2, Int.neg_mul, Int.one_mul, Int.mul_neg, Int.neg_neg, Int.mul_comm]
    · have : step = 0 := by omega
      subst this
      simp
theorem stride_bd {ps : List Pc} {s : Int} {many : Option Int} {j : Int} (K : PsB ps) (s0 : 0 < s) (h : IsNext (strB ps s many) 0 (some j)) : j.natAbs < 2 ^ 3050 := by
  obtain ⟨j0, hj, least⟩ := h
  obtain ⟨h1, h2⟩ := str_iff.mp hj
  obtain ⟨p, pm, hp⟩ := List.any_eq_true.mp h1
  obtain ⟨j', q1, q2, q3, q4⟩ := some_between (many := none) (K.b p pm).ok s0 hp (fun m z => nomatch z)
  have l0 := lo_nn (K.b p pm).ok s0
  have e : j' = j := by
    refine Classical.byContradiction fun ne => ?_
    have : strB ps s many j' = true := str_iff.mpr ⟨List.any_eq_true.mpr ⟨p, pm, by rw [in_between (K.b p pm).ok s0 q1 q2]; exact q4⟩, fun m hm => by have := h2 m hm; omega⟩
    rw [least j' (by omega) (by omega)] at this
    cases this
  subst e
  have hp0 : p.per.natAbs < 2 ^ 3000 := (K.b p pm).per
  have hlo : p.lo.natAbs < 2 ^ 3000 := (K.b p pm).lo
  have h3 : (-p.lo / s).natAbs ≤ (-p.lo).natAbs := Int.natAbs_ediv_le_natAbs _ _
  have p0 := (K.b p pm).ok.sp.pos
  have e1 : (2 : Nat) ^ 3000 + 2 ^ 3000 + 1 ≤ 2 ^ 3050 := by decide +kernel
  unfold hiI loI at *
  cases hh : p.hi with
  | none => rw [hh] at q2; dsimp only at q2; omega
  | some g =>
    rw [hh] at q2
    have := Int.natAbs_ediv_le_natAbs g s
    have hg : g.natAbs < 2 ^ 3000 := (K.b p pm).hi g hh
    dsimp only at q2
    omega
/-- one signal more -/
theorem stop_snoc {ss : List Stg} {rate : Option Int} {sigs : List Int} {sig b0 b1 dial step : Int} {ps : List Pc} {found o : Option Int} (hf : IsNext (stopB ss rate sigs b0 b1 dial step) 0 found)
    (h : ∀ x, 0 ≤ x → hasB ps x = dialF ss rate sig b0 b1 (dial + wayO step * x)) (hn : IsNext (strB ps (if step < 0 then -step else step) found) 0 o) : IsNext (stopB ss rate (sigs ++ [sig]) b0 b1 dial step) 0 (match o with | none => found | some j => some j) := by
  have s0 : 0 ≤ (if step < 0 then -step else step) := by split <;> omega
  have e : ∀ i, 0 ≤ i → hasB ps (i * (if step < 0 then -step else step)) = dialF ss rate sig b0 b1 (dial + step * i) := fun i i0 => by
    rw [h _ (Int.mul_nonneg i0 s0), way_abs]
  have ap : ∀ i, stopB ss rate (sigs ++ [sig]) b0 b1 dial step i = (stopB ss rate sigs b0 b1 dial step i || dialF ss rate sig b0 b1 (dial + step * i)) := fun i => by
    unfold stopB
    rw [List.any_append]
    simp
  have no : ∀ i, 0 ≤ i → (∀ m, found = some m → i < m) → strB ps (if step < 0 then -step else step) found i = false → stopB ss rate (sigs ++ [sig]) b0 b1 dial step i = false := fun i i0 im hi => by
    rw [ap]
    have h1 : stopB ss rate sigs b0 b1 dial step i = false := by
      cases hfo : found with
      | none => rw [hfo] at hf; exact hf i i0
      | some m => rw [hfo] at hf; exact hf.2.2 i i0 (im m hfo)
    rw [h1, Bool.false_or, ← e i i0]
    cases q : hasB ps (i * (if step < 0 then -step else step)) with
    | false => rfl
    | true => rw [str_iff.mpr ⟨q, im⟩] at hi; cases hi
  cases o with
  | none =>
    dsimp only
    cases hfo : found with
    | none =>
      rw [hfo] at hn no
      exact fun i i0 => no i i0 (fun m z => nomatch z) (hn i i0)
    | some m =>
      rw [hfo] at hn no hf
      obtain ⟨m0, hm, least⟩ := hf
      refine ⟨m0, by rw [ap, hm]; rfl, fun i i0 lt => no i i0 (fun m' z => by cases z; exact lt) (hn i i0)⟩
  | some j =>
    obtain ⟨j0, hj, least⟩ := hn
    obtain ⟨j1, j2⟩ := str_iff.mp hj
    refine ⟨j0, by rw [ap, ← e j j0, j1, Bool.or_true], fun i i0 lt => no i i0 (fun m hm => by have := j2 m hm; omega) (least i i0 lt)⟩
def LowS (dx dg db dy dst : PyData) : Prop := ∀ (ss : List Stg) (rate : Option Int) (sigs : List Int) (b0 b1 d st : Int), dx = radD ss rate → dg = .list (sigs.map PyData.int) → db = .tuple [.int b0, .int b1] → dy = .int d → dst = .int st → (∀ s ∈ ss, s.sz (2 ^ 320)) ∧ (∀ r, rate = some r → Sm r) ∧ (∀ s ∈ sigs, s.natAbs ≤ 2 ^ 320) ∧ b1.natAbs < 2 ^ 1990 ∧ d.natAbs ≤ 2 ^ 320 ∧ st.natAbs < 2 ^ 400
structure TellS (CR CG CB CD CN CI : Addr) (dx dg db dy dst : PyData) (H : Hp) (E : XK) (good : Prop) : Prop where
  r : ∀ f, fault dx = some f → ∀ H' dd, Ex H H' → H dd = none → H' dd = some (.xd [("index", fltV f)]) → E (.ref CR) (some dd) H'
  s : fault dx = none → ∀ f, faultG dg = some f → ∀ H' dd, Ex H H' → H dd = none → H' dd = some (.xd [("index", fltV f)]) → E (.ref CG) (some dd) H'
  b : fault dx = none → faultG dg = none → isBand db = false → ∀ H', Ex H H' → E (.ref CB) none H'
  d : fault dx = none → faultG dg = none → isBand db = true → isInt dy = false → ∀ H', Ex H H' → E (.ref CD) none H'
  n : fault dx = none → faultG dg = none → isBand db = true → isInt dy = true → isStep dst = false → ∀ H', Ex H H' → E (.ref CN) none H'
  i : fault dx = none → faultG dg = none → isBand db = true → isInt dy = true → isStep dst = true → (∀ ss rate, dx = radD ss rate → splitD ss = none) → ∀ H', Ex H H' → E (.ref CI) none H'
  g : fault dx = none → faultG dg = none → isBand db = true → isInt dy = true → isStep dst = true → good
def spStop (CR CG CB CD CN CI : Addr) : Sp := fun vs H Q E => ∃ x g b y st dx dg db dy dst, vs = [x, g, b, y, st] ∧ Dq H x dx ∧ Dq H g dg ∧ Dq H b db ∧ Dq H y dy ∧ Dq H st dst ∧ LowS dx dg db dy dst ∧
  TellS CR CG CB CD CN CI dx dg db dy dst H E (∀ (ss : List Stg) (rate : Option Int) (sigs : List Int) (b0 b1 dial step : Int), dx = radD ss rate → dg = .list (sigs.map PyData.int) → db = .tuple [.int b0, .int b1] → dy = .int dial → dst = .int step → splitD ss ≠ none → (∀ s ∈ sigs, 0 ≤ s) → 1 ≤ sigs.length → sigs.length ≤ 4 → 0 ≤ b0 → b0 ≤ b1 → step ≠ 0 → ∀ o H', Ex H H' → IsNext (stopB ss rate sigs b0 b1 dial step) 0 o → Q (optV o) H')
theorem ints_injL : ∀ {a b : List Int}, a.map PyData.int = b.map PyData.int → a = b
  | [], [], _ => rfl
  | [], _ :: _, h => by cases h
  | _ :: _, [], h => by cases h
  | x :: a, y :: b, h => by
    rw [List.map_cons, List.map_cons] at h
    injection h with h1 h2
    injection h1 with h1
    rw [h1, ints_injL h2]
theorem ints_inj {a b : List Int} (h : PyData.list (a.map PyData.int) = .list (b.map PyData.int)) : a = b := by
  injection h with h
  exact ints_injL h
section
variable {P : Program} {w : World} {K : PySem.W.Frag} {mg : Str → Option Value} {base : Heap} {CR CG CB CD CN CI : Addr}
abbrev s_first_stop : Stmt := top 56
theorem sc_first_stop : FnScope ["receiver", "signals", "band", "dial", "step", "found", "signal", "earlier"] ["receiver", "signals", "band", "dial", "step"] (defScope s_first_stop) := ⟨rfl, rfl, rfl, by decide +kernel, rfl, by decide +kernel, by decide +kernel⟩
theorem ok_first_stop {f : Addr} {fd : FuncData} (F : Fun K "first_stop" "first_stop" s_first_stop f fd) (m_abs : mg "abs" = none) (h__check_scan : HasX P w K mg base 6 "_check_scan" (spScan CR CG CB CD)) (h_check_step : HasX P w K mg base 2 "check_step" (spCheckE isStep CN)) (h_check_dial_stage : HasX P w K mg base 2 "check_dial_stage" (spCDS CI))
    (h__heard_along : Has P w K mg base 7 "_heard_along" spHA) (h_first_stride : Has P w K mg base 4 "first_stride" spStride) : FnOk P w K mg base (L2N.CX P w) 8 f fd ["receiver", "signals", "band", "dial", "step"] (spStop CR CG CB CD CN CI) := by
  refine okXN F sc_first_stop (fun vs H Q E h => ?_) (fun cdv A outer s H vs Q E hr h => ?_)
  · obtain ⟨x, g, b, y, st, dx, dg, db, dy, dst, rfl, _⟩ := h
    rfl
  · obtain ⟨x, g, b, y, st, dx, dg, db, dy, dst, rfl, hx, hg, hb, hy, hst, low, T⟩ := h
    refine ⟨_, (pss_cons (ps_expr (pe_hsS h__check_scan hr rfl (fun σ => L2N.passAt (L2N.takes_of rfl rfl rfl rfl) σ) (pa_cons (pv 0) (pa_cons (pv 1) (pa_cons (pv 2) (pa_cons (pv 3) pa_nil))))))
  (pss_cons (ps_expr (pe_hsS h_check_step hr rfl (fun σ => L2N.passAt (L2N.takes_of rfl rfl rfl rfl) σ) (pa_cons (pv 4) pa_nil)))
  (pss_cons (ps_expr (pe_hsS h_check_dial_stage hr rfl (fun σ => L2N.passAt (L2N.takes_of rfl rfl rfl rfl) σ) (pa_cons (pv 0) pa_nil)))
  (pss_cons (ps_set (i := 5) sc_first_stop.nd rfl (Or.inl rfl) pe_non)
  (pss_cons (ps_for (passes_of rfl) rfl (pi_list (pv 1)) (pg_name (i := 6) sc_first_stop.nd rfl (Or.inl rfl))
  (pss_cons (ps_set (i := 7) sc_first_stop.nd rfl (Or.inl rfl) (pe_hs h_first_stride hr rfl (pa_cons (pe_hs h__heard_along hr rfl (pa_cons (pv 0) (pa_cons (pv 6) (pa_cons (pv 2) (pa_cons (pv 3) (pa_cons (pv 4) pa_nil)))))) (pa_cons (pe_callB call_absQ rfl m_abs (by decide +kernel) (pa_cons (pv 4) pa_nil)) (pa_cons (pv 5) pa_nil)))))
  (pss_one (ps_set (i := 5) sc_first_stop.nd rfl (Or.inl rfl) (pe_ifExp (pt_cmpR op_isN1 (pv 7) pe_non (nomark _)) (pv 5) (pv 7))))))
  (pss_one (ps_ret (pv 5)))))))), ?_⟩
    walk_at "rd"
    refine go_call3 ?_
    walk_at "rd"
    refine ⟨x, g, b, y, dx, dg, db, dy, rfl, hx, hg, hb, hy, T.r, T.s, T.b, T.d, fun h0 h1 h2 h3 H1 e1 => ?_⟩
    walk_at "rd"
    refine go_call3 ?_
    walk_at "rd"
    refine go_checkE (hst.ex e1) (fun h4 H2 e2 => ?_) fun h4 H2 e2 => T.n h0 h1 h2 h3 h4 _ (e1.trans e2)
    have good := T.g h0 h1 h2 h3 h4
    have imp := T.i h0 h1 h2 h3 h4
    have e := e1.trans e2
    obtain ⟨ss, rate, rfl, _⟩ := fault_none h0
    obtain ⟨sigs, rfl, sg0, sg1, sg4⟩ := faultG_ints h1
    obtain ⟨b0, b1, rfl, hb0, hb1⟩ := band_of h2
    obtain ⟨dial, rfl⟩ : ∃ i, dy = .int i := by cases dy <;> simp [isInt] at h3; exact ⟨_, rfl⟩
    obtain ⟨step, rfl, st0⟩ := step_of h4
    cases hy
    cases hst
    obtain ⟨hz, hsm, hsg, hbb, hdl, hstb⟩ := low ss rate sigs b0 b1 dial step rfl rfl rfl rfl rfl
    walk_at "rd"
    refine go_call3 ?_
    walk_at "rd"
    refine ⟨x, ss, rate, rfl, hx.ex e, fun hn H3 e3 => imp (fun ss' rate' e' => by obtain ⟨rfl, _⟩ := rad_inj e'; exact hn) _ (e.trans e3), fun hn H3 e3 => ?_⟩
    have good := good ss rate sigs b0 b1 dial step rfl rfl rfl rfl rfl hn sg0 sg1 sg4 hb0 hb1 st0
    have e := e.trans e3
    obtain ⟨a, xs, rfl, ha, hda⟩ := hg.listAt
    walk_at "rd"
    refine ⟨⟨xs, .inl (Evl.ex_rd e ha)⟩, ?_⟩
    refine run_forL xs (fun i σ G => ∃ (found : Option Int) (v6 v7 : Option V), σ = [some x, some (.ref a), some b, some (.int dial), some (.int step), some (optV found), v6, v7] ∧ Ex H G ∧ IsNext (stopB ss rate (sigs.take i) b0 b1 dial step) 0 found ∧ ∀ m, found = some m → m.natAbs < 2 ^ 3050) ?_ ?_ ?_ ?_
    · exact ⟨none, _, _, rfl, e, fun y _ => rfl, fun m z => nomatch z⟩
    · rintro i σ G _ ⟨_, _, _, rfl, eG, _⟩
      exact .inl (Evl.ex_rd eG ha)
    · rintro i v σ G hi ⟨found, v6, v7, rfl, eG, hf, fb⟩
      obtain ⟨d, hd, hv⟩ := hda.get hi
      rw [List.getElem?_map] at hd
      obtain ⟨sig, hsig, rfl⟩ := Option.map_eq_some_iff.mp hd
      cases hv
      have sm := List.mem_of_getElem? hsig
      have tk : sigs.take (i + 1) = sigs.take i ++ [sig] := by rw [List.take_succ, hsig]; rfl
      walk_at "rd"
      refine ⟨x, b, ss, rate, sig, dial, step, b0, b1, rfl, hx.ex eG, (dq_pair hb).ex eG, h0, hn, hz, hsg sig sm, hdl, hb0, hb1, hbb, hsm, fun q H4 ps e4 hps o m => ?_⟩
      walk_at "rd"
      have sb : (if step < 0 then -step else step).natAbs < 2 ^ 400 := Nat.lt_of_le_of_lt (by split <;> omega) hstb
      have sp : 0 < (if step < 0 then -step else step) := by split <;> omega
      refine ⟨q, ps, _, found, rfl, hps, o, sp, sb, fb, fun u H5 e5 hu => ?_⟩
      have nx := stop_snoc hf m hu
      have E5 := (eG.trans e4).trans e5
      walk_at "rd"
      cases u with
      | none =>
        refine ite2 (fun _ => ?_) (fun c => absurd (by simp [optV]) c)
        walk_at "rd"
        exact ⟨found, _, _, rfl, E5, by rw [tk]; exact nx, fb⟩
      | some j =>
        refine ite2 (fun c => absurd c (by simp [optV])) (fun _ => ?_)
        walk_at "rd"
        exact ⟨some j, _, _, rfl, E5, by rw [tk]; exact nx, fun m' z => by cases z; exact stride_bd o sp hu⟩
    · rintro σ G ⟨found, v6, v7, rfl, eG, hf, _⟩
      have hl := hda.len
      rw [List.length_map] at hl
      rw [hl, List.take_length] at hf
      walk_at "rd"
      exact good found _ eG hf
end
end Kx

set_option Elab.async false
set_option linter.all false
set_option maxRecDepth 100000
set_option maxHeartbeats 4000000

namespace Kx
open PySem PySem.Spec PyProof.Rows L2 HX
open Evl (Ex)
local macro_rules | `(tactic| walk_at "side") => `(tactic| first | assumption | ((try dsimp only); first | assumption | decide +kernel | omega | exact ⟨by decide, by decide⟩ | (left; decide) | (left; omega) | (refine Or.inl ⟨?_, ?_⟩ <;> omega) | (refine Or.inr ⟨?_, ?_⟩ <;> omega)))
local macro_rules | `(tactic| walk_at "heap") => `(tactic| first | assumption | exact upd_same | exact Or.inl (by assumption) | exact Or.inl upd_same)
local macro_rules | `(tactic| walk_at "item") => `(tactic| first | exact rfl | exact atI_nat (j := 0) rfl | exact atI_nat (j := 1) rfl | exact atI_nat (j := 2) rfl | assumption)
local macro_rules | `(tactic| walk_at "rd") => `(tactic| repeat (first
  | ((with_reducible refine' go_var ?hv ?_); (case hv => exact rfl))
  | with_reducible refine' go_c ?_
  | with_reducible refine' go_op ?_
  | with_reducible refine' go_seq ?_
  | with_reducible refine' go_asg ?_
  | with_reducible refine' go_name ?_
  | with_reducible refine' go_cons ?_
  | with_reducible refine' go_nil ?_
  | with_reducible refine' go_cb ?_
  | with_reducible refine' go_call ?_
  | with_reducible refine' go_ifS ?_
  | with_reducible refine' go_test ?_
  | with_reducible refine' go_bl ?_
  | with_reducible refine' go_ret ?_
  | with_reducible refine' go_I0 ?_
  | ((with_reducible refine' go_I ?cc ?_); (case cc => walk_at "side"))
  | ((with_reducible refine' go_ixL ?hh ?hk ?_); (case hh => walk_at "heap"); (case hk => walk_at "item"))
  | ((with_reducible refine' go_ixT ?hh ?hk ?_); (case hh => walk_at "heap"); (case hk => walk_at "item"))
  | ((with_reducible refine' go_lenL ?hh ?_); (case hh => walk_at "heap"))
  | ((with_reducible refine' go_lenT ?hh ?_); (case hh => walk_at "heap"))
  | ((with_reducible refine' go_setL ?hh ?hk ?_); (case hh => walk_at "heap"); (case hk => walk_at "item"))
  | with_reducible refine' go_abs ?_
  | with_reducible refine' go_max ?_
  | with_reducible refine' go_min ?_
  | with_reducible refine' go_int ?_
  | with_reducible refine' go_intB ?_
  | (with_reducible refine' go_eq rfl ?_)
  | (with_reducible refine' go_ne rfl ?_)
  | with_reducible refine' go_isN ?_
  | with_reducible refine' go_notN ?_
  | with_reducible refine' go_if ?_
  | with_reducible refine' go_sub ?_
  | with_reducible refine' go_par ?_
  | with_reducible refine' go_sl ?_
  | with_reducible refine' go_part ?_
  | with_reducible refine' go_pint ?_
  | with_reducible refine' go_nopart ?_
  | ((with_reducible refine' go_lenL ?hh ?_); (case hh => walk_at "heap"))
  | ((with_reducible refine' go_lenT ?hh ?_); (case hh => walk_at "heap"))
  | ((with_reducible refine' go_lenS ?hh ?_); (case hh => assumption))
  | with_reducible refine' go_gcons ?_
  | with_reducible refine' go_gnil ?_
  | with_reducible refine' go_kw ?_
  | with_reducible refine' go_par2 ?_
  | with_reducible refine' go_next ?_
  | with_reducible refine' go_drop ?_
  | with_reducible refine' go_and ?_
  | with_reducible refine' go_or ?_
  | with_reducible refine' go_not ?_
  | with_reducible refine' go_B ?_
  | with_reducible refine' go_andV ?_
  | with_reducible refine' go_orV ?_
  | with_reducible refine' go_notV ?_
  | with_reducible refine' go_chain ?_
  | with_reducible refine' go_un ?_
  | with_reducible refine' go_U ?_
  | with_reducible refine' go_bm ?_
  | with_reducible refine' go_tup ?_
  | with_reducible refine' go_lst ?_
  | with_reducible refine' go_forR1 ?_
  | with_reducible refine' go_forR2 ?_
  | with_reducible refine' go_forL ?_
  | with_reducible refine' go_forT ?_
  | with_reducible refine' go_forE ?_
  | with_reducible refine' go_lcR1 ?_
  | with_reducible refine' go_lcL ?_
  | with_reducible refine' go_lcT ?_
  | ((with_reducible refine' go_tyL ?hh ?_); (case hh => walk_at "heap"))
  | ((with_reducible refine' go_new ?hz ?_); (case hz => exact Nat.le_of_ble_eq_true rfl))
  | (with_reducible refine' ⟨_, rfl, ?_⟩)
  ))
--MACEND
section
variable {P : Program} {w : World} {K : PySem.W.Frag} {mg : Str → Option Value} {base : Heap} {CR CS CB CD CN CI : Addr}
def TellC (CR CS CB CD CN CI : Addr) (dx ds db dl dg : PyData) (H : Hp) (E : XK) (good : Prop) : Prop :=
  (∀ f, fault dx = some f → ∀ H' dd, Ex H H' → H dd = none → H' dd = some (.xd [("index", fltV f)]) → E (.ref CR) (some dd) H') ∧
  (fault dx = none → isNat ds = false → ∀ H', Ex H H' → E (.ref CS) none H') ∧
  (fault dx = none → isNat ds = true → isBand db = false → ∀ H', Ex H H' → E (.ref CB) none H') ∧
  (fault dx = none → isNat ds = true → isBand db = true → (isInt dl = false ∨ isInt dg = false) → ∀ H', Ex H H' → E (.ref CD) none H') ∧
  (fault dx = none → isNat ds = true → isBand db = true → ∀ l g : Int, dl = .int l → dg = .int g → g < l → ∀ H', Ex H H' → E (.ref CN) none H') ∧
  (fault dx = none → isNat ds = true → isBand db = true → (∀ l g : Int, dl = .int l → dg = .int g → l ≤ g) → (∀ ss rate, dx = radD ss rate → splitD ss = none) → ∀ H', Ex H H' → E (.ref CI) none H') ∧
  (fault dx = none → isNat ds = true → isBand db = true → isInt dl = true → isInt dg = true → good)
def LowC (dx ds db dl dg : PyData) : Prop := ∀ ss rate sig b0 b1 l g, dx = radD ss rate → ds = .int sig → db = .tuple [.int b0, .int b1] → dl = .int l → dg = .int g → (∀ s ∈ ss, s.sz (2 ^ 320)) ∧ (∀ r, rate = some r → Sm r) ∧ b1.natAbs < 2 ^ 1990 ∧ sig.natAbs ≤ 2 ^ 320 ∧ l.natAbs ≤ 2 ^ 320 ∧ g.natAbs ≤ 2 ^ 320
def spCountD (CR CS CB CD CN CI : Addr) : Sp := fun vs H Q E => ∃ x s b l g dx ds db dl dg, vs = [x, s, b, l, g] ∧ Dq H x dx ∧ Dq H s ds ∧ Dq H b db ∧ Dq H l dl ∧ Dq H g dg ∧ LowC dx ds db dl dg ∧
  TellC CR CS CB CD CN CI dx ds db dl dg H E (∀ ss rate sig b0 b1 least greatest, dx = radD ss rate → ds = .int sig → db = .tuple [.int b0, .int b1] → dl = .int least → dg = .int greatest → splitD ss ≠ none → 0 ≤ sig → 0 ≤ b0 → b0 ≤ b1 → least ≤ greatest →
    ∀ H', Ex H H' → Q (.int (cnt (fun k => dialF ss rate sig b0 b1 (least + k)) (greatest - least + 1).toNat)) H')
end
end Kx

set_option Elab.async false
set_option linter.all false
set_option maxRecDepth 100000
set_option maxHeartbeats 4000000
namespace Kx
open PySem PySem.Spec PyProof.Rows L2 HX
open Evl (Ex)
/-- a receiver with a dial, without a fault, no giants -/
structure Vs (ss : List Stg) (rate : Option Int) : Prop where
  flt : fault (radD ss rate) = none
  sz : ∀ s ∈ ss, s.sz (2 ^ 320)
  sm : ∀ r, rate = some r → Sm r
  dl : splitD ss ≠ none
theorem Vs.of {b : Int} {ss : List Stg} {rate : Option Int} (R : Rad b ss rate) (hb : b < 2 ^ 290) (hd : splitD ss ≠ none) : Vs ss rate := by
  have e1 : (2 : Int) ^ 290 = 1989292945639146568621528992587283360401824603189390869761855907572637988050133502132224 := by decide +kernel
  have e2 : (2 : Nat) ^ 320 = 2135987035920910082395021706169552114602704522356652769947041607822219725780640550022962086936576 := by decide +kernel
  refine ⟨fault_right R, fun s hs => ?_, fun r hr => ?_, hd⟩
  · have o := R.ok s hs
    cases s with
    | mix lo =>
      obtain ⟨o1, o2⟩ := o
      show lo.natAbs ≤ _
      omega
    | dial a =>
      obtain ⟨o1, o2⟩ := o
      show a.natAbs ≤ _
      omega
    | pass a b =>
      obtain ⟨o1, o2, o3⟩ := o
      show a.natAbs ≤ _ ∧ b.natAbs ≤ _
      constructor <;> omega
  · have := R.rate r hr
    refine Nat.lt_of_le_of_lt (show r.natAbs ≤ 2 ^ 320 by omega) (by decide +kernel)
section
variable {CR CS CB CD CN CI : Addr} {H : Hp} {Q : VK} {E : XK} {x b : V} {ss : List Stg} {rate : Option Int} {sig dial b0 b1 : Int}
theorem go_dial {R : (Int → Bool) → Int → V → Prop} (hx : Dq H x (radD ss rate)) (C : Vs ss rate) (hb : PrR H b (b0, b1)) (h0 : 0 ≤ b0) (h1 : b0 ≤ b1) (bb : b1.natAbs < 2 ^ 1990) (s0 : 0 ≤ sig) (sb : sig.natAbs ≤ 2 ^ 320) (db : dial.natAbs ≤ 2 ^ 320)
    (k : ∀ v H', Ex H H' → R (dialF ss rate sig b0 b1) dial v → Q v H') : spDial R CR CS CB CD CI [x, .int sig, b, .int dial] H Q E := by
  have fb := band_right h0 h1
  have fs : isNat (.int sig) = true := decide_eq_true s0
  refine ⟨x, .int sig, b, .int dial, radD ss rate, .int sig, .tuple [.int b0, .int b1], .int dial, rfl, hx, .int _, dq_band hb, .int _, ?_, ⟨fun f e => (by rw [C.flt] at e; cases e), fun _ z => (by rw [fs] at z; cases z), fun _ _ z => (by rw [fb] at z; cases z), fun _ _ _ z => (nomatch z), fun _ _ _ _ z => absurd (z ss rate rfl) C.dl, fun _ _ _ _ => ?_⟩⟩
  · intro ss' rate' sig' b0' b1' d' e1 e2 e3 e4
    obtain ⟨rfl, rfl⟩ := rad_inj e1
    cases e2
    cases e3
    cases e4
    exact ⟨C.sz, C.sm, bb, sb, db⟩
  · intro ss' rate' sig' b0' b1' d' e1 e2 e3 e4 _ _ _ _ v H' e r
    obtain ⟨rfl, rfl⟩ := rad_inj e1
    cases e2
    cases e3
    cases e4
    exact k v H' e r
theorem go_tone2 {CR CD CN : Addr} {n : Int} (hx : Dq H x (radD ss rate)) (hf : fault (radD ss rate) = none) (n0 : 0 ≤ n) (k : ∀ H', Ex H H' → Q (optV (toneF dial ss rate n)) H') : spToneF CR CD CN [x, .int dial, .int n] H Q E := by
  refine ⟨x, .int dial, .int n, radD ss rate, .int dial, .int n, rfl, hx, .int _, .int _, tell3 hf rfl (decide_eq_true n0) ?_⟩
  intro ss' rate' dial' n' e1 e2 e3 _ _ _ H' e
  obtain ⟨rfl, rfl⟩ := rad_inj e1
  cases e2
  cases e3
  exact k H' e
theorem go_countD {least greatest : Int} (hx : Dq H x (radD ss rate)) (C : Vs ss rate) (hb : PrR H b (b0, b1)) (h0 : 0 ≤ b0) (h1 : b0 ≤ b1) (bb : b1.natAbs < 2 ^ 1990) (s0 : 0 ≤ sig) (sb : sig.natAbs ≤ 2 ^ 320) (lb : least.natAbs ≤ 2 ^ 320) (gb : greatest.natAbs ≤ 2 ^ 320) (le : least ≤ greatest)
    (k : ∀ H', Ex H H' → Q (.int (cnt (fun k => dialF ss rate sig b0 b1 (least + k)) (greatest - least + 1).toNat)) H') : spCountD CR CS CB CD CN CI [x, .int sig, b, .int least, .int greatest] H Q E := by
  have fb := band_right h0 h1
  have fs : isNat (.int sig) = true := decide_eq_true s0
  refine ⟨x, .int sig, b, .int least, .int greatest, radD ss rate, .int sig, .tuple [.int b0, .int b1], .int least, .int greatest, rfl, hx, .int _, dq_band hb, .int _, .int _, ?_, fun f e => (by rw [C.flt] at e; cases e), fun _ z => (by rw [fs] at z; cases z), fun _ _ z => (by rw [fb] at z; cases z),
    fun _ _ _ z => (by rcases z with z | z <;> cases z), fun _ _ _ l g e1 e2 lt => (by cases e1; cases e2; omega), fun _ _ _ _ z => absurd (z ss rate rfl) C.dl, fun _ _ _ _ _ => ?_⟩
  · intro ss' rate' sig' b0' b1' l' g' e1 e2 e3 e4 e5
    obtain ⟨rfl, rfl⟩ := rad_inj e1
    cases e2
    cases e3
    cases e4
    cases e5
    exact ⟨C.sz, C.sm, bb, sb, lb, gb⟩
  · intro ss' rate' sig' b0' b1' l' g' e1 e2 e3 e4 e5 _ _ _ _ _ H' e
    obtain ⟨rfl, rfl⟩ := rad_inj e1
    cases e2
    cases e3
    cases e4
    cases e5
    exact k H' e
end
/-! ### moved and mirrored -/
theorem next_shift {P R : Int → Bool} {a c : Int} {o : Option Int} (h : ∀ k, P k = R (k + c)) (k : IsNext P a o) : IsNext R (a + c) (o.map fun x => x + c) := by
  have h' : ∀ y, R y = P (y - c) := fun y => by rw [h, show y - c + c = y by omega]
  cases o with
  | none => exact fun y hy => by rw [h']; exact k _ (by omega)
  | some x =>
    obtain ⟨k1, k2, k3⟩ := k
    refine ⟨by show a + c ≤ x + c; omega, by show R (x + c) = true; rw [← h]; exact k2, fun y h1 h2 => ?_⟩
    have h2 : y < x + c := h2
    rw [h']
    exact k3 _ (by omega) (by omega)
theorem prev_shift {P R : Int → Bool} {a c : Int} {o : Option Int} (h : ∀ k, P k = R (k + c)) (k : IsPrev P a o) : IsPrev R (a + c) (o.map fun x => x + c) := by
  have h' : ∀ y, R y = P (y - c) := fun y => by rw [h, show y - c + c = y by omega]
  cases o with
  | none => exact fun y hy => by rw [h']; exact k _ (by omega)
  | some x =>
    obtain ⟨k1, k2, k3⟩ := k
    refine ⟨by show x + c ≤ a + c; omega, by show R (x + c) = true; rw [← h]; exact k2, fun y h1 h2 => ?_⟩
    have h1 : x + c < y := h1
    rw [h']
    exact k3 _ (by omega) (by omega)
/-- the greatest of all is that of those from 0 on, if there is one -/
theorem prev_last {P : Int → Bool} {a : Int} {o u : Option Int} (h : IsPrev P a o) (k : IsLast P a u) : match u with
    | some x => o = some x
    | none => ∀ x, o = some x → x < 0 := by
  cases u with
  | some x => exact prev_uniq h ⟨k.2.1, k.2.2.1, k.2.2.2⟩
  | none =>
    intro x e
    subst e
    obtain ⟨h1, h2, h3⟩ := h
    refine Classical.byContradiction fun z => ?_
    rw [k x (by omega) h1] at h2
    cases h2
theorem cnt_split {P : Int → Bool} (a : Nat) : ∀ n : Nat, cnt P (a + n) = cnt P a + cnt (fun k => P ((a : Int) + k)) n
  | 0 => by rw [Nat.add_zero]; exact (Int.add_zero _).symm
  | n + 1 => by
    rw [← Nat.add_assoc, cnt_succ, cnt_succ, cnt_split a n, show ((a + n : Nat) : Int) = (a : Int) + n by omega]
    omega
/-- with the dial ahead of all, only how far the signal is from it counts -/
theorem dial_first {d d' a w w' b0 b1 : Int} {q : List Stg} {rate : Option Int} (hq : NoD q) (h : w - d - a = w' - d' - a ∨ w - d - a = -(w' - d' - a)) : heardF d (.dial a :: q) rate b0 b1 w = heardF d' (.dial a :: q) rate b0 b1 w' ∧ toneF d (.dial a :: q) rate w = toneF d' (.dial a :: q) rate w' := by
  have e : mixF d (.dial a :: q) w = mixF d' (.dial a :: q) w' := by
    show lastT d q ((Stg.dial a).step d (some w)) = lastT d' q ((Stg.dial a).step d' (some w'))
    rw [lastT_nod hq (d' := d')]
    congr 1
    show some (if w - (d + a) < 0 then -(w - (d + a)) else w - (d + a)) = some (if w' - (d' + a) < 0 then -(w' - (d' + a)) else w' - (d' + a))
    congr 1
    split <;> split <;> omega
  refine ⟨heard_of_mix e, ?_⟩
  cases rate with
  | none => exact e
  | some r => show sampled r _ = sampled r _; rw [e]
end Kx

set_option Elab.async false
set_option linter.all false
set_option maxRecDepth 100000
set_option maxHeartbeats 4000000
namespace Kx
open PySem PySem.Spec PyProof.Rows L2 HX
open Evl (Ex)
def rev3 {α : Type} : List α → List α
  | [a, b, c] => [c, b, a]
  | l => l
theorem fine_stg {s : Stg} (h : s.ok (10 ^ 50)) : Fine 1900 1 s.d := by
  have m1 : Fine 600 0 (.str "mix") := .str (by decide +kernel) (by decide +kernel)
  have m2 : Fine 600 0 (.str "dial") := .str (by decide +kernel) (by decide +kernel)
  have m3 : Fine 600 0 (.str "pass") := .str (by decide +kernel) (by decide +kernel)
  have e : (10 : Int) ^ 50 = 100000000000000000000000000000000000000000000000000 := by decide +kernel
  have fi : ∀ i : Int, -(10 ^ 50) ≤ i → i ≤ 10 ^ 50 → Fine 600 0 (.int i) := fun i h1 h2 => Fine.int (by
    have : (100000000000000000000000000000000000000000000000001 : Nat) < 2 ^ 600 := by decide +kernel
    generalize (2 : Nat) ^ 600 = B at *
    omega)
  cases s with
  | mix lo =>
    obtain ⟨o1, o2⟩ := h
    exact (Fine.tuple (l := [.str "mix", .int lo]) (two (l := []) m1 (fi lo (by omega) o2))).mono (by show 2 * 601 ≤ 1900; decide) (by decide)
  | dial lo => exact (Fine.tuple (l := [.str "dial", .int lo]) (two (l := []) m2 (fi lo h.1 h.2))).mono (by show 2 * 601 ≤ 1900; decide) (by decide)
  | pass lo hi =>
    obtain ⟨o1, o2, o3⟩ := h
    refine (Fine.tuple (w := 600) (k := 0) (l := [.str "pass", .int lo, .int hi]) fun x hx => ?_).mono (by show 3 * 601 ≤ 1900; decide) (by decide)
    rcases List.mem_cons.mp hx with rfl | hx
    · exact m3
    · exact two (l := []) (fi lo (by omega) (by omega)) (fi hi (by omega) o3) x hx
theorem Rad.mono {b c : Int} {ss : List Stg} {rate : Option Int} (R : Rad b ss rate) (h : b ≤ c) : Rad c ss rate := by
  refine ⟨R.ne, R.le, fun s hs => ?_, R.one, fun r hr => ⟨(R.rate r hr).1, by have := (R.rate r hr).2; omega⟩⟩
  have o := R.ok s hs
  cases s with
  | mix lo => exact ⟨o.1, by have := o.2; omega⟩
  | dial a => exact ⟨by have := o.1; omega, by have := o.2; omega⟩
  | pass lo hi => exact ⟨o.1, o.2.1, by have := o.2.2; omega⟩
theorem fine_rad {ss : List Stg} {rate : Option Int} (R : Rad (10 ^ 50) ss rate) : Fine 30500 3 (radD ss rate) := by
  have h1 : Fine 15208 2 (.list (ss.map Stg.d)) := by
    refine (Fine.list (w := 1900) (k := 1) (l := ss.map Stg.d) fun x hx => ?_).mono (by rw [List.length_map]; have := R.le; omega) (Nat.le_refl _)
    obtain ⟨s, hs', rfl⟩ := List.mem_map.mp hx
    exact fine_stg (R.ok s hs')
  have h2 : Fine 15208 2 (rateD rate) := by
    cases hr : rate with
    | none => exact Fine.none.mono (by decide) (by decide)
    | some r =>
      have := R.rate r hr
      have e : (10 : Int) ^ 50 = 100000000000000000000000000000000000000000000000000 := by decide +kernel
      exact (Fine.int (Nat.lt_of_le_of_lt (show r.natAbs ≤ 100000000000000000000000000000000000000000000000000 by omega) (by decide +kernel : _ < 2 ^ 600))).mono (by decide) (by decide)
  exact (Fine.tuple (l := [.list (ss.map Stg.d), rateD rate]) (two (l := []) h1 h2)).mono (by show 2 * 15209 ≤ 30500; decide) (Nat.le_refl _)
theorem dq_opt (H : Hp) (o : Option Int) : Dq H (optV o) (rateD o) := by
  cases o with
  | none => exact .non
  | some i => exact .int i
theorem fine_opt {o : Option Int} (h : ∀ x, o = some x → x.natAbs < 2 ^ 600) : Fine 600 0 (rateD o) := by
  cases o with
  | none => exact Fine.none.mono (by decide) (by decide)
  | some x => exact Fine.int (h x rfl)
theorem dq_ints (H : Hp) : ∀ l : List Int, DqAll H (l.map V.int) (l.map PyData.int)
  | [] => .nil
  | z :: l => .cons (.int z) (dq_ints H l)
theorem shaped_ints (l : List Int) : SeqAt.shaped (.list (l.map PyData.int)) = true := by
  have all : ∀ l : List Int, PyData.canLayAll0 (l.map PyData.int) = true ∧ PyData.depthAll (l.map PyData.int) = 0 := fun l => by
    induction l with
    | nil => exact ⟨rfl, rfl⟩
    | cons s l ih =>
      refine ⟨ih.1, ?_⟩
      show max 0 (PyData.depthAll (l.map PyData.int)) = 0
      rw [ih.2]
      rfl
  unfold SeqAt.shaped
  rw [Bool.and_eq_true, decide_eq_true_iff]
  exact ⟨(all l).1, by show PyData.depthAll _ + 1 ≤ 64; rw [(all l).2]; decide⟩
def rev4 {α : Type} : List α → List α
  | [a, b, c, d] => [d, c, b, a]
  | l => l
def rev5 {α : Type} : List α → List α
  | [a, b, c, d, e] => [e, d, c, b, a]
  | l => l
theorem vals_rev4 {zs : List V} {ws : List Value} (h : Vals zs ws) : Vals (rev4 zs) (rev4 ws) := by
  cases h with
  | nil => exact .nil
  | cons a h => cases h with
    | nil => exact .cons a .nil
    | cons b h => cases h with
      | nil => exact .cons a (.cons b .nil)
      | cons c h => cases h with
        | nil => exact .cons a (.cons b (.cons c .nil))
        | cons d h => cases h with
          | nil => exact .cons d (.cons c (.cons b (.cons a .nil)))
          | cons e h => exact .cons a (.cons b (.cons c (.cons d (.cons e h))))
theorem vals_rev5 {zs : List V} {ws : List Value} (h : Vals zs ws) : Vals (rev5 zs) (rev5 ws) := by
  cases h with
  | nil => exact .nil
  | cons a h => cases h with
    | nil => exact .cons a .nil
    | cons b h => cases h with
      | nil => exact .cons a (.cons b .nil)
      | cons c h => cases h with
        | nil => exact .cons a (.cons b (.cons c .nil))
        | cons d h => cases h with
          | nil => exact .cons a (.cons b (.cons c (.cons d .nil)))
          | cons e h => cases h with
            | nil => exact .cons e (.cons d (.cons c (.cons b (.cons a .nil))))
            | cons f h => exact .cons a (.cons b (.cons c (.cons d (.cons e (.cons f h)))))
end Kx

set_option Elab.async false
set_option linter.all false
set_option maxRecDepth 100000
set_option maxHeartbeats 4000000
namespace Kx
open PySem PySem.Spec PyProof.Rows L2 HX
open Evl (Ex)
theorem splitD_ne {ss : List Stg} (one : dials ss = 1) : splitD ss ≠ none := by
  obtain ⟨p, a, q, h, _⟩ := split_of_one one
  rw [h]
  exact fun z => nomatch z
section
variable {CR CG CB CD CN CI : Addr} {H : Hp} {Q : VK} {E : XK} {x g b : V} {ss : List Stg} {rate : Option Int} {sigs : List Int} {dial step b0 b1 : Int}
theorem go_stop (hx : Dq H x (radD ss rate)) (C : Vs ss rate) (hg : Dq H g (.list (sigs.map PyData.int))) (g0 : ∀ s ∈ sigs, 0 ≤ s) (gb : ∀ s ∈ sigs, s.natAbs ≤ 2 ^ 320) (g1 : 1 ≤ sigs.length) (g4 : sigs.length ≤ 4) (hb : PrR H b (b0, b1)) (h0 : 0 ≤ b0) (h1 : b0 ≤ b1) (bb : b1.natAbs < 2 ^ 1990) (db : dial.natAbs ≤ 2 ^ 320) (s0 : step ≠ 0) (sb : step.natAbs < 2 ^ 400)
    (k : ∀ o H', Ex H H' → IsNext (stopB ss rate sigs b0 b1 dial step) 0 o → Q (optV o) H') : spStop CR CG CB CD CN CI [x, g, b, .int dial, .int step] H Q E := by
  have fb := band_right h0 h1
  have fg := faultG_right g0 g1 g4
  have fs : isStep (.int step) = true := by simp [isStep, s0]
  refine ⟨x, g, b, .int dial, .int step, radD ss rate, .list (sigs.map PyData.int), .tuple [.int b0, .int b1], .int dial, .int step, rfl, hx, hg, dq_band hb, .int _, .int _, ?_,
    ⟨fun f e => (by rw [C.flt] at e; cases e), fun _ f e => (by rw [fg] at e; cases e), fun _ _ z => (by rw [fb] at z; cases z), fun _ _ _ z => (nomatch z), fun _ _ _ _ z => (by rw [fs] at z; cases z), fun _ _ _ _ _ z => absurd (z ss rate rfl) C.dl, fun _ _ _ _ _ => ?_⟩⟩
  · intro ss' rate' sigs' b0' b1' d' st' e1 e2 e3 e4 e5
    obtain ⟨rfl, rfl⟩ := rad_inj e1
    obtain rfl := ints_inj e2
    cases e3
    cases e4
    cases e5
    exact ⟨C.sz, C.sm, gb, bb, db, sb⟩
  · intro ss' rate' sigs' b0' b1' d' st' e1 e2 e3 e4 e5 _ _ _ _ _ _ _ o H' e r
    obtain ⟨rfl, rfl⟩ := rad_inj e1
    obtain rfl := ints_inj e2
    cases e3
    cases e4
    cases e5
    exact k o H' e r
end
/-- with small numbers a scan stops within its first 700 steps, or never -/
theorem stop_soon {ss : List Stg} {rate : Option Int} {sigs : List Int} {b0 b1 dial step : Int} (one : dials ss = 1) (l8 : ss.length ≤ 8) (fi : ∀ s ∈ ss, s.fine 28) (hr : ∀ r, rate = some r → 2 ≤ r ∧ r ≤ 30) (g0 : ∀ s ∈ sigs, 0 ≤ s ∧ s ≤ 40) (h1 : b1 ≤ 24) (d0 : -80 ≤ dial) (d1 : dial ≤ 80) (s0 : step ≠ 0)
    (no : ∀ i, 0 ≤ i → i < 700 → stopB ss rate sigs b0 b1 dial step i = false) : ∀ i, 0 ≤ i → stopB ss rate sigs b0 b1 dial step i = false := by
  -- the way, and the number of steps of 1
  have key : ∀ n : Nat, ∀ i : Int, i.toNat = n → 0 ≤ i → stopB ss rate sigs b0 b1 dial step i = false := by
    intro n
    induction n using Nat.strongRecOn with
    | ind n ih =>
      intro i hi i0
      by_cases c : i < 700
      · exact no i i0 c
      · cases q : stopB ss rate sigs b0 b1 dial step i with
        | false => rfl
        | true =>
          exfalso
          obtain ⟨sig, sm, hs⟩ := List.any_eq_true.mp q
          obtain ⟨sg0, sg1⟩ := g0 sig sm
          obtain ⟨w, hw, a1, hst⟩ : ∃ w : Int, (w = 1 ∨ w = -1) ∧ ∃ p : Int, 1 ≤ p ∧ step = w * p := by
            by_cases z : 0 < step
            · exact ⟨1, .inl rfl, step, by omega, by omega⟩
            · exact ⟨-1, .inr rfl, -step, by omega, by omega⟩
          obtain ⟨p1, hstep⟩ := hst
          have pos : ∀ k : Int, dial + step * k = w * (w * dial + a1 * k) := fun k => by
            rw [hstep]
            rcases hw with h | h <;> rw [h]
            · rw [Int.one_mul, Int.one_mul, Int.one_mul]
            · rw [Int.neg_mul, Int.one_mul, Int.neg_mul, Int.neg_mul, Int.one_mul, Int.neg_mul, Int.one_mul]
              omega
          have wd : -80 ≤ w * dial ∧ w * dial ≤ 80 := by rcases hw with h | h <;> rw [h] <;> omega
          have grow : ∀ k : Int, 0 ≤ k → k ≤ a1 * k := fun k k0 => by
            have := Int.mul_le_mul_of_nonneg_right (show 1 ≤ a1 by omega) k0
            rwa [Int.one_mul] at this
          have hT := grow i i0
          have hs' : bandB b0 b1 (toneF (dial + step * i) ss rate sig) = true := hs
          rw [pos] at hs'
          rcases far_line (w := w) (A := 40) one l8 fi (by omega) sg0 sg1 (by omega) hw with F | ⟨c', hc, F⟩
          · rw [toneF_none (F _ (by omega))] at hs'
            cases hs'
          · cases hrate : rate with
            | none =>
              rw [hrate, show toneF (w * (w * dial + a1 * i)) ss none sig = mixF (w * (w * dial + a1 * i)) ss sig from rfl, F _ (by omega)] at hs'
              have hs' : (decide (b0 ≤ w * dial + a1 * i + c') && decide (w * dial + a1 * i + c' ≤ b1)) = true := hs'
              rw [Bool.and_eq_true, decide_eq_true_iff, decide_eq_true_iff] at hs'
              omega
            | some r =>
              obtain ⟨r2, r3⟩ := hr r hrate
              have lo := grow (i - r) (by omega)
              have t : ∀ d, 18 * 28 + 40 + 1 ≤ d → toneF (w * d) ss rate sig = some (sampI r (d + c')) := fun d hd => by
                rw [hrate]
                show sampled r (mixF (w * d) ss sig) = _
                rw [F d hd]
                rfl
              have e : stopB ss rate sigs b0 b1 dial step (i - r) = true := by
                refine List.any_eq_true.mpr ⟨sig, sm, ?_⟩
                show bandB b0 b1 (toneF (dial + step * (i - r)) ss rate sig) = true
                rw [pos, t _ (by omega)]
                rw [t _ (by omega)] at hs'
                have per : ∀ k : Nat, ∀ n : Int, sampI r (n + r * k) = sampI r n := fun k => by
                  induction k with
                  | zero => intro n; rw [Int.natCast_zero, Int.mul_zero, Int.add_zero]
                  | succ k ih => intro n; rw [Int.natCast_add, Int.mul_add, show r * ((1 : Nat) : Int) = r from Int.mul_one r, ← Int.add_assoc, samp_shift, ih]
                have e1 : w * dial + a1 * i + c' = w * dial + a1 * (i - r) + c' + r * (a1.toNat : Int) := by
                  rw [Int.toNat_of_nonneg (by omega), Int.mul_sub, Int.mul_comm r a1]
                  omega
                rw [e1, per] at hs'
                exact hs'
              rw [ih (i - r).toNat (by omega) (i - r) rfl (by omega)] at e
              cases e
  exact fun i i0 => key i.toNat i rfl i0
end Kx

set_option Elab.async false
set_option linter.all false
set_option maxRecDepth 100000
set_option maxHeartbeats 4000000

namespace Kx
open PySem PySem.Spec PyProof.Rows L2 HX
open Evl (Ex)
local macro_rules | `(tactic| walk_at "side") => `(tactic| first | assumption | ((try dsimp only); first | assumption | decide +kernel | omega | exact ⟨by decide, by decide⟩ | (left; decide) | (left; omega) | (refine Or.inl ⟨?_, ?_⟩ <;> omega) | (refine Or.inr ⟨?_, ?_⟩ <;> omega)))
local macro_rules | `(tactic| walk_at "heap") => `(tactic| first | assumption | exact upd_same | exact Or.inl (by assumption) | exact Or.inl upd_same)
local macro_rules | `(tactic| walk_at "item") => `(tactic| first | exact rfl | exact atI_nat (j := 0) rfl | exact atI_nat (j := 1) rfl | exact atI_nat (j := 2) rfl | assumption)
local macro_rules | `(tactic| walk_at "rd") => `(tactic| repeat (first
  | ((with_reducible refine' go_var ?hv ?_); (case hv => exact rfl))
  | with_reducible refine' go_c ?_
  | with_reducible refine' go_op ?_
  | with_reducible refine' go_seq ?_
  | with_reducible refine' go_asg ?_
  | with_reducible refine' go_name ?_
  | with_reducible refine' go_cons ?_
  | with_reducible refine' go_nil ?_
  | with_reducible refine' go_cb ?_
  | with_reducible refine' go_call ?_
  | with_reducible refine' go_ifS ?_
  | with_reducible refine' go_test ?_
  | with_reducible refine' go_bl ?_
  | with_reducible refine' go_ret ?_
  | with_reducible refine' go_I0 ?_
  | ((with_reducible refine' go_I ?cc ?_); (case cc => walk_at "side"))
  | ((with_reducible refine' go_ixL ?hh ?hk ?_); (case hh => walk_at "heap"); (case hk => walk_at "item"))
  | ((with_reducible refine' go_ixT ?hh ?hk ?_); (case hh => walk_at "heap"); (case hk => walk_at "item"))
  | ((with_reducible refine' go_lenL ?hh ?_); (case hh => walk_at "heap"))
  | ((with_reducible refine' go_lenT ?hh ?_); (case hh => walk_at "heap"))
  | ((with_reducible refine' go_setL ?hh ?hk ?_); (case hh => walk_at "heap"); (case hk => walk_at "item"))
  | with_reducible refine' go_abs ?_
  | with_reducible refine' go_max ?_
  | with_reducible refine' go_min ?_
  | with_reducible refine' go_int ?_
  | with_reducible refine' go_intB ?_
  | (with_reducible refine' go_eq rfl ?_)
  | (with_reducible refine' go_ne rfl ?_)
  | with_reducible refine' go_isN ?_
  | with_reducible refine' go_notN ?_
  | with_reducible refine' go_if ?_
  | with_reducible refine' go_sub ?_
  | with_reducible refine' go_par ?_
  | with_reducible refine' go_sl ?_
  | with_reducible refine' go_part ?_
  | with_reducible refine' go_pint ?_
  | with_reducible refine' go_nopart ?_
  | ((with_reducible refine' go_lenL ?hh ?_); (case hh => walk_at "heap"))
  | ((with_reducible refine' go_lenT ?hh ?_); (case hh => walk_at "heap"))
  | ((with_reducible refine' go_lenS ?hh ?_); (case hh => assumption))
  | with_reducible refine' go_gcons ?_
  | with_reducible refine' go_gnil ?_
  | with_reducible refine' go_kw ?_
  | with_reducible refine' go_par2 ?_
  | with_reducible refine' go_next ?_
  | with_reducible refine' go_drop ?_
  | with_reducible refine' go_and ?_
  | with_reducible refine' go_or ?_
  | with_reducible refine' go_not ?_
  | with_reducible refine' go_B ?_
  | with_reducible refine' go_andV ?_
  | with_reducible refine' go_orV ?_
  | with_reducible refine' go_notV ?_
  | with_reducible refine' go_chain ?_
  | with_reducible refine' go_un ?_
  | with_reducible refine' go_U ?_
  | with_reducible refine' go_bm ?_
  | with_reducible refine' go_tup ?_
  | with_reducible refine' go_lst ?_
  | with_reducible refine' go_forR1 ?_
  | with_reducible refine' go_forR2 ?_
  | with_reducible refine' go_forL ?_
  | with_reducible refine' go_forT ?_
  | with_reducible refine' go_forE ?_
  | with_reducible refine' go_lcR1 ?_
  | with_reducible refine' go_lcL ?_
  | with_reducible refine' go_lcT ?_
  | ((with_reducible refine' go_tyL ?hh ?_); (case hh => walk_at "heap"))
  | ((with_reducible refine' go_new ?hz ?_); (case hz => exact Nat.le_of_ble_eq_true rfl))
  | (with_reducible refine' ⟨_, rfl, ?_⟩)
  ))
--MACEND
def spLTone : Sp := fun vs H Q _ => ∃ (x : V) (dial n : Int) (ss : List Stg) (rate : Option Int), vs = [x, .int dial, .int n] ∧ Dq H x (radD ss rate) ∧ (∀ r, rate = some r → 2 ≤ r) ∧ ∀ H', Ex H H' → Q (optV (toneF dial ss rate n)) H'
theorem nm_mix (s : Stg) : decide (V.str s.nm = V.str "mix") = (match s with | .mix _ => true | _ => false) := by
  cases s with
  | mix lo => exact (by decide +kernel : decide (V.str "mix" = V.str "mix") = true)
  | dial lo => exact (by decide +kernel : decide (V.str "dial" = V.str "mix") = false)
  | pass lo hi => exact (by decide +kernel : decide (V.str "pass" = V.str "mix") = false)
section
variable {P : Program} {w : World} {K : PySem.W.Frag} {mg : Str → Option Value} {base : Heap}
abbrev s__law_tone : Stmt := top 62
theorem sc__law_tone : FnScope ["kind", "where", "number", "stage", "rest"] ["kind", "where", "number"] (defScope s__law_tone) := ⟨rfl, rfl, rfl, by decide +kernel, rfl, by decide +kernel, by decide +kernel⟩
theorem ok_law_tone {f : Addr} {fd : FuncData} (F : Fun K "_law_tone" "_law_tone" s__law_tone f fd) (m_abs : mg "abs" = none) (m_min : mg "min" = none) (m_int : mg "int" = none) : FnOk P w K mg base CX0 1 f fd ["kind", "where", "number"] spLTone := by
  refine F.ok sc__law_tone (fun vs H Q E h => ?_) (fun cdv A outer s H vs Q E hr h => ?_)
  · obtain ⟨x, dial, n, ss, rate, rfl, _⟩ := h
    rfl
  · obtain ⟨x, dial, n, ss, rate, rfl, hx, r2, k⟩ := h
    refine ⟨_, (pss_cons (ps_for PassesOwn.never rfl (pi_list (pe_ix ix_tup (pv 0) pe_int (fun _ _ => rfl))) (pg_name (i := 3) sc__law_tone.nd rfl (Or.inl rfl))
  (pss_one (ps_if (pt_cmpR op_eq (pe_ix ix_tup (pv 3) pe_int (fun _ _ => rfl)) pe_str (nomark _))
  (pss_one (ps_set (i := 2) sc__law_tone.nd rfl (Or.inl rfl) (pe_callB call_absQ rfl m_abs (by decide +kernel) (pa_cons (pe_op op_sub (pv 2) (pe_ix ix_tup (pv 3) pe_int (fun _ _ => rfl))) pa_nil))))
  (pss_one (ps_if (pt_cmpR op_eq (pe_ix ix_tup (pv 3) pe_int (fun _ _ => rfl)) pe_str (nomark _))
  (pss_one (ps_set (i := 2) sc__law_tone.nd rfl (Or.inl rfl) (pe_callB call_absQ rfl m_abs (by decide +kernel) (pa_cons (pe_op op_sub (pe_op op_sub (pv 2) (pv 1)) (pe_ix ix_tup (pv 3) pe_int (fun _ _ => rfl))) pa_nil))))
  (pss_one (ps_if (pt_not (pt_chain op_le op_le (pe_ix ix_tup (pv 3) pe_int (fun _ _ => rfl)) (pv 2) (pe_ix ix_tup (pv 3) pe_int (fun _ _ => rfl))))
  (pss_one (ps_ret pe_non))
  pss_nil)))))))
  (pss_cons (ps_if (pt_cmpR op_isN1 (pe_ix ix_tup (pv 0) pe_int (fun _ _ => rfl)) pe_non (nomark _))
  (pss_one (ps_ret (pv 2)))
  pss_nil)
  (pss_cons (ps_set (i := 4) sc__law_tone.nd rfl (Or.inl rfl) (pe_op op_mod (pe_callTy call_intQ rfl m_int boot_int (pa_cons (pv 2) pa_nil)) (pe_ix ix_tup (pv 0) pe_int (fun _ _ => rfl))))
  (pss_one (ps_ret (pe_callB (call_minQ rfl) rfl m_min boot_min (pa_cons (pv 4) (pa_cons (pe_op op_sub (pe_ix ix_tup (pv 0) pe_int (fun _ _ => rfl)) (pv 4)) pa_nil)))))))), ?_⟩
    obtain ⟨a, xs, rfl, ha, hda⟩ := Dq.tupleAt (ds := [.list (ss.map Stg.d), rateD rate]) hx
    obtain ⟨v1, v2, d1, d2, rfl, ed, hv1, hv2⟩ := dqa2 hda rfl
    obtain ⟨rfl, rfl⟩ : PyData.list (ss.map Stg.d) = d1 ∧ rateD rate = d2 := by simpa using ed
    obtain rfl := rate_at hv2
    obtain ⟨l, ys, rfl, hl, hys⟩ := hv1.listAt
    walk_at "rd"
    refine ⟨⟨ys, .inl hl⟩, ?_⟩
    refine run_forL ys (fun i σ G => ∃ (here : Int) (v4 v5 : Option V), σ = [some (.ref a), some (.int dial), some (.int here), v4, v5] ∧ Ex H G ∧ lastT dial (ss.take i) (some n) = some here) ?_ ?_ ?_ ?_
    · exact ⟨n, _, _, rfl, Ex.refl _, rfl⟩
    · rintro i σ G _ ⟨here, v4, v5, rfl, e, _⟩
      exact .inl (Evl.ex_rd e hl)
    · rintro i v σ G hi ⟨here, v4, v5, rfl, e, hh⟩
      obtain ⟨st, hs, hv⟩ := dqa_get hys hi
      have hv := hv.ex e
      have tk := (tones_take dial ss (some n) i st hs).2
      rw [hh] at tk
      obtain ⟨b, zs, rfl, hb, h0⟩ := stg_nm hv
      walk_at "rd"
      rw [nm_mix]
      obtain ⟨b', eb, hm⟩ := stg_at hv
      cases eb
      cases st with
      | pass lo hi =>
        dsimp only at hm
        refine iteF ?_
        walk_at "rd"
        refine ite2 (fun c => absurd c (by decide +kernel)) (fun _ => ?_)
        walk_at "rd"
        have out : ¬ (lo ≤ here ∧ here ≤ hi) → ∀ G', Ex H G' → Q .non G' := fun z G' e' => by
          have st : (Stg.pass lo hi).step dial (some here) = none := by
            show (if lo ≤ here ∧ here ≤ hi then some here else none) = none
            rw [if_neg z]
          rw [st] at tk
          have := k G' e'
          rw [toneF_none (rate := rate) (lastT_take tk)] at this
          exact this
        refine ite2 (fun c => ?_) (fun c => ?_)
        · have c1 : lo ≤ here := of_decide_eq_true c
          walk_at "rd"
          refine ite2 (fun d => ?_) (fun d => ?_)
          · have d1 : ¬ here ≤ hi := by simpa using d
            walk_at "rd"
            exact out (fun z => d1 z.2) _ e
          · have d1 : here ≤ hi := by simpa using d
            walk_at "rd"
            refine ⟨here, _, _, rfl, e, ?_⟩
            rw [tk]
            show (if lo ≤ here ∧ here ≤ hi then some here else none) = _
            rw [if_pos ⟨c1, d1⟩]
        · have c1 : ¬ lo ≤ here := fun z => c (decide_eq_true z)
          refine ⟨false, rfl, iteT ?_⟩
          walk_at "rd"
          exact out (fun z => c1 z.1) _ e
      | mix lo =>
        dsimp only at hm
        refine iteT ?_
        walk_at "rd"
        refine ⟨_, _, _, rfl, e, ?_⟩
        rw [tk]
        rfl
      | dial add =>
        dsimp only at hm
        refine iteF ?_
        walk_at "rd"
        refine ite2 (fun _ => ?_) (fun c => absurd (by decide +kernel) c)
        walk_at "rd"
        refine ⟨_, _, _, rfl, e, ?_⟩
        rw [tk]
        show some (if here - (dial + add) < 0 then -(here - (dial + add)) else here - (dial + add)) = some (if here - dial - add < 0 then -(here - dial - add) else here - dial - add)
        rw [show here - (dial + add) = here - dial - add by omega]
    · rintro σ G ⟨here, v4, v5, rfl, e, hh⟩
      rw [hys.len, List.length_map, List.take_length] at hh
      have ha' := Evl.ex_rd e ha
      walk_at "rd"
      cases rate with
      | none =>
        refine ite2 (fun _ => ?_) (fun c => absurd (by simp [optV]) c)
        walk_at "rd"
        have := k _ e
        rw [show toneF dial ss none n = some here from hh] at this
        exact this
      | some r =>
        rw [show optV (some r) = V.int r from rfl]
        refine ite2 (fun c => absurd c (by simp)) (fun _ => ?_)
        have r0 := r2 r rfl
        rw [show optV (some r) = V.int r from rfl] at ha'
        walk_at "rd"
        have := k _ e
        rw [show toneF dial ss (some r) n = sampled r (some here) from by show sampled r (mixF dial ss n) = _; rw [show mixF dial ss n = some here from hh]] at this
        exact this
end
end Kx

set_option Elab.async false
set_option linter.all false
set_option maxRecDepth 100000
set_option maxHeartbeats 4000000

namespace Kx
open PySem PySem.Spec PyProof.Rows L2 HX
open Evl (Ex)
local macro_rules | `(tactic| walk_at "side") => `(tactic| first | assumption | ((try dsimp only); first | assumption | decide +kernel | omega | exact ⟨by decide, by decide⟩ | (left; decide) | (left; omega) | (refine Or.inl ⟨?_, ?_⟩ <;> omega) | (refine Or.inr ⟨?_, ?_⟩ <;> omega)))
local macro_rules | `(tactic| walk_at "heap") => `(tactic| first | assumption | exact upd_same | exact Or.inl (by assumption) | exact Or.inl upd_same)
local macro_rules | `(tactic| walk_at "item") => `(tactic| first | exact rfl | exact atI_nat (j := 0) rfl | exact atI_nat (j := 1) rfl | exact atI_nat (j := 2) rfl | assumption)
local macro_rules | `(tactic| walk_at "rd") => `(tactic| repeat (first
  | ((with_reducible refine' go_var ?hv ?_); (case hv => exact rfl))
  | with_reducible refine' go_c ?_
  | with_reducible refine' go_op ?_
  | with_reducible refine' go_seq ?_
  | with_reducible refine' go_asg ?_
  | with_reducible refine' go_name ?_
  | with_reducible refine' go_cons ?_
  | with_reducible refine' go_nil ?_
  | with_reducible refine' go_cb ?_
  | with_reducible refine' go_call ?_
  | with_reducible refine' go_ifS ?_
  | with_reducible refine' go_test ?_
  | with_reducible refine' go_bl ?_
  | with_reducible refine' go_ret ?_
  | with_reducible refine' go_I0 ?_
  | ((with_reducible refine' go_I ?cc ?_); (case cc => walk_at "side"))
  | ((with_reducible refine' go_ixL ?hh ?hk ?_); (case hh => walk_at "heap"); (case hk => walk_at "item"))
  | ((with_reducible refine' go_ixT ?hh ?hk ?_); (case hh => walk_at "heap"); (case hk => walk_at "item"))
  | ((with_reducible refine' go_lenL ?hh ?_); (case hh => walk_at "heap"))
  | ((with_reducible refine' go_lenT ?hh ?_); (case hh => walk_at "heap"))
  | ((with_reducible refine' go_setL ?hh ?hk ?_); (case hh => walk_at "heap"); (case hk => walk_at "item"))
  | with_reducible refine' go_abs ?_
  | with_reducible refine' go_max ?_
  | with_reducible refine' go_min ?_
  | with_reducible refine' go_int ?_
  | with_reducible refine' go_intB ?_
  | (with_reducible refine' go_eq rfl ?_)
  | (with_reducible refine' go_ne rfl ?_)
  | with_reducible refine' go_isN ?_
  | with_reducible refine' go_notN ?_
  | with_reducible refine' go_if ?_
  | with_reducible refine' go_sub ?_
  | with_reducible refine' go_par ?_
  | with_reducible refine' go_sl ?_
  | with_reducible refine' go_part ?_
  | with_reducible refine' go_pint ?_
  | with_reducible refine' go_nopart ?_
  | ((with_reducible refine' go_lenL ?hh ?_); (case hh => walk_at "heap"))
  | ((with_reducible refine' go_lenT ?hh ?_); (case hh => walk_at "heap"))
  | ((with_reducible refine' go_lenS ?hh ?_); (case hh => assumption))
  | with_reducible refine' go_gcons ?_
  | with_reducible refine' go_gnil ?_
  | with_reducible refine' go_kw ?_
  | with_reducible refine' go_par2 ?_
  | with_reducible refine' go_next ?_
  | with_reducible refine' go_drop ?_
  | with_reducible refine' go_and ?_
  | with_reducible refine' go_or ?_
  | with_reducible refine' go_not ?_
  | with_reducible refine' go_B ?_
  | with_reducible refine' go_andV ?_
  | with_reducible refine' go_orV ?_
  | with_reducible refine' go_notV ?_
  | with_reducible refine' go_chain ?_
  | with_reducible refine' go_un ?_
  | with_reducible refine' go_U ?_
  | with_reducible refine' go_bm ?_
  | with_reducible refine' go_tup ?_
  | with_reducible refine' go_lst ?_
  | with_reducible refine' go_forR1 ?_
  | with_reducible refine' go_forR2 ?_
  | with_reducible refine' go_forL ?_
  | with_reducible refine' go_forT ?_
  | with_reducible refine' go_forE ?_
  | with_reducible refine' go_lcR1 ?_
  | with_reducible refine' go_lcL ?_
  | with_reducible refine' go_lcT ?_
  | ((with_reducible refine' go_tyL ?hh ?_); (case hh => walk_at "heap"))
  | ((with_reducible refine' go_new ?hz ?_); (case hz => exact Nat.le_of_ble_eq_true rfl))
  | (with_reducible refine' ⟨_, rfl, ?_⟩)
  ))
--MACEND
theorem jar_ex {n : Nat} {H H' : Hp} {j : Addr} (e : Ex H H') (h : JarAt n H j) : JarAt n H' j := by
  obtain ⟨a, b, c, h, r⟩ := h
  exact ⟨a, b, c, e _ _ h, r⟩
def argsD (ss : List Stg) (rate : Option Int) (sigs : List Int) (b0 b1 : Int) : PyData := .list [radD ss rate, .list (sigs.map PyData.int), .tuple [.int b0, .int b1]]
theorem Fine.three {a b c : PyData} {w1 w2 w3 k : Nat} (h1 : Fine w1 k a) (h2 : Fine w2 k b) (h3 : Fine w3 k c) : Fine (w1 + w2 + w3 + 3) (k + 1) (.list [a, b, c]) := by
  refine ⟨by simp [PyData.showable, PyData.showableAll, h1.sh, h2.sh, h3.sh], by simp [PyData.leavesShort, PyData.leavesShortAll, h1.lv, h2.lv, h3.lv], ?_, ?_⟩
  · have := h1.wt
    have := h2.wt
    have := h3.wt
    simp only [PyData.weight, PyData.weightAll]
    omega
  · have := h1.dp
    have := h2.dp
    have := h3.dp
    simp only [PyData.depth, PyData.depthAll]
    omega
theorem fine_args {ss : List Stg} {rate : Option Int} {sigs : List Int} {b0 b1 : Int} (R : Rad (10 ^ 50) ss rate) (l4 : sigs.length ≤ 4) (gb : ∀ s ∈ sigs, s.natAbs < 2 ^ 600) (hb0 : b0.natAbs < 2 ^ 600) (hb1 : b1.natAbs < 2 ^ 600) : Fine 35000 4 (argsD ss rate sigs b0 b1) := by
  have h2 : Fine 2404 3 (.list (sigs.map PyData.int)) := by
    refine (Fine.list (w := 600) (k := 0) (l := sigs.map PyData.int) fun x hx => ?_).mono (by rw [List.length_map]; omega) (by decide)
    obtain ⟨s, hs', rfl⟩ := List.mem_map.mp hx
    exact Fine.int (gb s hs')
  have h3 : Fine 1202 3 (.tuple [.int b0, .int b1]) := (Fine.tuple (l := [.int b0, .int b1]) (two (l := []) (Fine.int hb0) (Fine.int hb1))).mono (by show 2 * 601 ≤ 1202; decide) (by decide)
  exact (Fine.three (fine_rad R) h2 h3).mono (by decide) (by decide)
theorem cut_forR {lo : Int} {n : Nat} {g : TG} {tb : TS} {D : Ends} {σ : L2.St} {H : Hp} (M : L2.St → Hp → Prop) (h : ∀ D' : Ends, D'.rt = D.rt → (∀ σ' H', M σ' H' → D'.nx σ' H') → forR lo n g tb D' σ H) (k : ∀ σ' H', M σ' H' → D.nx σ' H') : forR lo n g tb D σ H := h D rfl k
/-- what the law finds step by step, up to a limit -/
def DueTo (P : Int → Bool) (n : Int) (due : Option Int) : Prop := match due with
  | none => ∀ i, 0 ≤ i → i < n → P i = false
  | some s => 0 ≤ s ∧ s < n ∧ P s = true ∧ ∀ i, 0 ≤ i → i < s → P i = false
def spRight : Sp := fun vs H Q _ => ∃ (j : Addr) (x g b : V) (ss : List Stg) (rate : Option Int) (sigs : List Int) (b0 b1 : Int) (n : Nat), vs = [.ref j, x, g, b] ∧ JarAt n H j ∧ n < 2 ^ 39 ∧ Dq (hid [j] H) x (radD ss rate) ∧ Dq (hid [j] H) g (.list (sigs.map PyData.int)) ∧ Dq (hid [j] H) b (.tuple [.int b0, .int b1]) ∧
  Rad 300 ss rate ∧ (∀ s ∈ ss, s.fine 28) ∧ dials ss = 1 ∧ (∀ r, rate = some r → r ≤ 30) ∧ (∀ s ∈ sigs, 0 ≤ s ∧ s ≤ 40) ∧ 1 ≤ sigs.length ∧ sigs.length ≤ 4 ∧ 0 ≤ b0 ∧ b0 ≤ b1 ∧ b1 ≤ 24 ∧ ∀ H', JarAt (n + 10) H' j → Jx [j] H H' → Q (.bl true) H'
section
variable {P : Program} {w : World} {K : PySem.W.Frag} {mg : Str → Option Value} {base : Heap} {CR CG CB CD CN CI : Addr}
abbrev s__law_right : Stmt := top 64
theorem sc__law_right : FnScope ["stock", "kind", "numbers", "band_here", "start", "pace", "due", "kept", "spot", "where", "number", "told", "found"] ["stock", "kind", "numbers", "band_here"] (defScope s__law_right) := ⟨rfl, rfl, rfl, by decide +kernel, rfl, by decide +kernel, by decide +kernel⟩
theorem ok_law_right {f : Addr} {fd : FuncData} (F : Fun K "_law_right" "_law_right" s__law_right f fd) (m_range : mg "range" = none) (m_repr : mg "repr" = none) (h__law_draw : Has P w K mg base 1 "_law_draw" spPick) (h__law_tone : Has P w K mg base 1 "_law_tone" spLTone)
    (h_first_stop_kw : HasKX P w K mg base 8 "first_stop" ["step", "dial", "band", "signals", "receiver"] rev5 rev5 (spStop CR CG CB CD CN CI)) :
    FnG P w K mg base CX0 9 f fd ["stock", "kind", "numbers", "band_here"] spRight := by
  refine okG F sc__law_right (fun vs H Q E h => ?_) (fun cdv A outer s H vs Q E hgd hr h => ?_)
  · obtain ⟨j, x, g, b, ss, rate, sigs, b0, b1, n, rfl, _⟩ := h
    rfl
  · obtain ⟨j, x, g, b, ss, rate, sigs, b0, b1, n, rfl, hJ, hn, hx, hg, hb, R, fi, one, rr, gs, g1, g4, hb0, hb1, hb2, k⟩ := h
    refine ⟨_, PSs.nox ((pss_cons (ps_par (i := 4) (j := 5) (by rfl) sc__law_right.nd rfl rfl (by decide) rfl rfl (pa_cons (pe_op op_sub (pe_hs h__law_draw hr rfl (pa_cons (pv 0) (pa_cons pe_int pa_nil))) pe_int) (pa_cons (pe_ix ix_list (pe_lst (pa_cons pe_int (pa_cons pe_int (pa_cons (pe_op op_add pe_int (pe_hs h__law_draw hr rfl (pa_cons (pv 0) (pa_cons pe_int pa_nil)))) pa_nil)))) (pe_hs h__law_draw hr rfl (pa_cons (pv 0) (pa_cons pe_int pa_nil))) (fun _ _ => rfl)) pa_nil)) (by rfl))
  (pss_cons (ps_set (i := 5) sc__law_right.nd rfl (Or.inl rfl) (pe_op op_mul (pv 5) (pe_ix ix_list (pe_lst (pa_cons pe_int (pa_cons (pe_un un_neg pe_int) pa_nil))) (pe_hs h__law_draw hr rfl (pa_cons (pv 0) (pa_cons pe_int pa_nil))) (fun _ _ => rfl))))
  (pss_cons (ps_par (i := 6) (j := 7) (by rfl) sc__law_right.nd rfl rfl (by decide) rfl rfl (pa_cons pe_non (pa_cons (pe_callB (call_repr hgd hr.units) rfl m_repr (by decide +kernel) (pa_cons (pe_lst (pa_cons (pv 1) (pa_cons (pv 2) (pa_cons (pv 3) pa_nil)))) pa_nil)) pa_nil)) (by rfl))
  (pss_cons (ps_for PassesOwn.never rfl (pi_range1 (by rfl) m_range (pa_cons pe_int pa_nil)) (pg_name (i := 8) sc__law_right.nd rfl (Or.inl rfl))
  (pss_cons (ps_set (i := 9) sc__law_right.nd rfl (Or.inl rfl) (pe_op op_add (pv 4) (pe_op op_mul (pv 8) (pv 5))))
  (pss_cons (ps_for PassesOwn.never rfl (pi_list (pv 2)) (pg_name (i := 10) sc__law_right.nd rfl (Or.inl rfl))
  (pss_cons (ps_set (i := 11) sc__law_right.nd rfl (Or.inl rfl) (pe_hs h__law_tone hr rfl (pa_cons (pv 1) (pa_cons (pv 9) (pa_cons (pv 10) pa_nil)))))
  (pss_one (ps_if (PW.pt (pw_and (pt_cmpR op_isN1 (pv 6) pe_non (nomark _)) (pw_and (pt_cmpR op_notN1 (pv 11) pe_non (nomark _)) (pw_and1 (pt_chain op_le op_le (pe_ix ix_tup (pv 3) pe_int (fun _ _ => rfl)) (pv 11) (pe_ix ix_tup (pv 3) pe_int (fun _ _ => rfl)))))))
  (pss_one (ps_set (i := 6) sc__law_right.nd rfl (Or.inl rfl) (pv 8)))
  pss_nil))))
  (pss_one (ps_if (pt_cmpR op_notN1 (pv 6) pe_non (nomark _))
  (pss_one ps_break)
  pss_nil)))))
  (pss_cons (ps_set (i := 12) sc__law_right.nd rfl (Or.inl rfl) (pe_kwX h_first_stop_kw hr rfl (pk_cons (pv 5) (pk_cons (pv 4) (pk_cons (pv 3) (pk_cons (pv 2) (pk_cons (pv 1) pk_nil)))))))
  (pss_one (ps_ret (pe_and (pe_cmpR op_eq (pe_callB (call_repr hgd hr.units) rfl m_repr (by decide +kernel) (pa_cons (pv 12) pa_nil)) (pe_callB (call_repr hgd hr.units) rfl m_repr (by decide +kernel) (pa_cons (pv 6) pa_nil)) (nomark _)) (pe_one (pe_cmpR op_eq (pe_callB (call_repr hgd hr.units) rfl m_repr (by decide +kernel) (pa_cons (pe_lst (pa_cons (pv 1) (pa_cons (pv 2) (pa_cons (pv 3) pa_nil)))) pa_nil)) (pv 7) (nomark _)))))))))))), ?_⟩
    have r2 : ∀ r, rate = some r → 2 ≤ r ∧ r ≤ 30 := fun r e => ⟨(R.rate r e).1, rr r e⟩
    have C : Vs ss rate := Vs.of R (by decide +kernel) (splitD_ne one)
    have nb : ∀ z : Int, z.natAbs ≤ 1000 → z.natAbs < 2 ^ 600 := fun z h => Nat.lt_of_le_of_lt h (by decide +kernel)
    have nb3 : ∀ z : Int, z.natAbs ≤ 1000 → z.natAbs ≤ 2 ^ 320 := fun z h => Nat.le_trans h (by decide +kernel)
    have fa := fine_args (R.mono (by decide +kernel)) g4 (fun s hs => nb s (by have := gs s hs; omega)) (nb b0 (by omega)) (nb b1 (by omega))
    walk_at "rd"
    refine pick_go hJ (by omega) (by decide) (by decide) fun u0 H1 u00 u01 J1 y1 => ?_
    walk_at "rd"
    refine pick_go J1 (by omega) (by decide) (by decide) fun z H2 z0 z1 J2 y2 => ?_
    walk_at "rd"
    intro p hp
    have J3 := J2.lay (o := .lst [.int 1, .int 1, .int (1 + z)]) hp
    walk_at "rd"
    refine pick_go J3 (by omega) (by decide) (by decide) fun u H4 u0' u1 J4 y4 => ?_
    have hp4 := y4.get (upd_same (H := H2) (a := p) (o := .lst [.int 1, .int 1, .int (1 + z)])) (nin1 (fresh_ne J2.obj.choose_spec hp))
    obtain ⟨pa, ea, pa0, pa1⟩ := menu_int [1, 1, 1 + z] 1 9 u0' (by simpa using u1) (by simp; omega)
    refine go_ixL (.inl hp4) ea ?_
    have Y4 := ((y1.tr y2).tr (Jx.new hp)).tr y4
    walk_at "rd"
    intro q hq
    have J5 := J4.lay (o := .lst [.int 1, .int (-1)]) hq
    walk_at "rd"
    refine pick_go J5 (by omega) (by decide) (by decide) fun u6 H6 u60 u61 J6 y6 => ?_
    have hq6 := y6.get (upd_same (H := H4) (a := q) (o := .lst [.int 1, .int (-1)])) (nin1 (fresh_ne J4.obj.choose_spec hq))
    obtain ⟨sg, es, sg0, sg1⟩ : ∃ sg : Int, atI [V.int 1, .int (-1)] u6 = some (.int sg) ∧ (sg = 1 ∨ sg = -1) ∧ True := by
      have : u6 = 0 ∨ u6 = 1 := by omega
      rcases this with rfl | rfl
      · exact ⟨1, rfl, .inl rfl, trivial⟩
      · exact ⟨-1, rfl, .inr rfl, trivial⟩
    refine go_ixL (.inl hq6) es ?_
    have cm : CMul pa sg := by unfold CMul; omega
    have Y6 := (Y4.tr (Jx.new hq)).tr y6
    obtain ⟨pace, hpace⟩ : ∃ pace, pa * sg = pace := ⟨_, rfl⟩
    have pc : pace ≠ 0 ∧ -9 ≤ pace ∧ pace ≤ 9 := by rw [← hpace]; rcases sg0 with h | h <;> rw [h] <;> omega
    walk_at "rd"
    rw [hpace]
    have hx6 := (Y6.dq hx).ex hid_ex
    have hg6 := (Y6.dq hg).ex hid_ex
    have hb6 := (Y6.dq hb).ex hid_ex
    clear hp4 hq6 hpace cm y6 y4 y2 y1 J5 J4 J3 J2 J1 Y4
    obtain ⟨start, hst⟩ : ∃ start, u0 - 80 = start := ⟨_, rfl⟩
    rw [hst]
    have sb : -80 ≤ start ∧ start ≤ 80 := by omega
    clear hst
    walk_at "rd"
    intro l hl
    have xl := Ex.new (o := HO.lst [x, g, b]) hl
    walk_at "rd"
    refine go_repr (d := argsD ss rate sigs b0 b1) (.lst (.inl upd_same) (.cons (hx6.ex xl) (.cons (hg6.ex xl) (.cons (hb6.ex xl) .nil)))) fa (by decide) (by decide) ?_
    have J7 := J6.lay (o := HO.lst [x, g, b]) hl
    have Y7 := Y6.tr (Jx.new (o := HO.lst [x, g, b]) hl)
    replace hx := hx6.ex xl
    replace hg := hg6.ex xl
    replace hb := hb6.ex xl
    clear hx6 hg6 hb6 J6 Y6
    walk_at "rd"
    revert hx hg hb J7 Y7
    generalize upd H6 l (.lst [x, g, b]) = G0
    intro J7 Y7 hx hg hb
    obtain ⟨ag, xs, rfl, hag, hda⟩ := hg.listAt
    have hlx : xs.length = sigs.length := by rw [hda.len, List.length_map]
    obtain ⟨t, ht⟩ : ∃ t, (argsD ss rate sigs b0 b1).shown = t := ⟨_, rfl⟩
    rw [ht]
    refine ⟨by decide, by decide, ?_⟩
    refine cut_forR (fun σ G => ∃ (due : Option Int) (v8 v9 v10 v11 : Option V), σ = [some (.ref j), some x, some (.ref ag), some b, some (.int start), some (.int pace), some (optV due), some (.str t), v8, v9, v10, v11, none] ∧ Ex G0 G ∧ DueTo (stopB ss rate sigs b0 b1 start pace) 700 due) (fun D' _ hnx => ?_) ?_
    · refine run_forR (fun i σ G => ∃ (v8 v9 v10 v11 : Option V), σ = [some (.ref j), some x, some (.ref ag), some b, some (.int start), some (.int pace), some .non, some (.str t), v8, v9, v10, v11, none] ∧ Ex G0 G ∧ ∀ i', 0 ≤ i' → i' < (i : Int) → stopB ss rate sigs b0 b1 start pace i' = false) ?_ ?_ ?_
      · exact ⟨_, _, _, _, rfl, Ex.refl _, fun i' a1 a2 => by omega⟩
      · rintro i σ G hi ⟨v8, v9, v10, v11, rfl, eG, no⟩
        have i7 : i < 700 := hi
        have cm : CMul (0 + (i : Int)) pace := by
          have h1 : (0 + (i : Int)).natAbs < 700 := by omega
          have h2 : pace.natAbs < 10 := by omega
          unfold CMul
          omega
        walk_at "rd"
        obtain ⟨wh, hwh⟩ : ∃ wh, start + (0 + (i : Int)) * pace = wh := ⟨_, rfl⟩
        have hwh' : wh = start + pace * (i : Int) := by rw [← hwh, Int.zero_add, Int.mul_comm]
        rw [hwh]
        refine ⟨⟨xs, .inl (Evl.ex_rd eG hag)⟩, ?_⟩
        refine run_forL xs (fun m σ G => ∃ (due : Option Int) (v10 v11 : Option V), σ = [some (.ref j), some x, some (.ref ag), some b, some (.int start), some (.int pace), some (optV due), some (.str t), some (.int (0 + (i : Int))), some (.int wh), v10, v11, none] ∧ Ex G0 G ∧ (match due with | none => (sigs.take m).any (fun s => dialF ss rate s b0 b1 wh) = false | some s => s = (i : Int) ∧ stopB ss rate sigs b0 b1 start pace i = true)) ?_ ?_ ?_ ?_
        · exact ⟨none, _, _, rfl, eG, rfl⟩
        · rintro m σ G' _ ⟨_, _, _, rfl, e', _⟩
          exact .inl (Evl.ex_rd e' hag)
        · rintro m v σ G' hv ⟨due, v10', v11', rfl, e', hdue⟩
          obtain ⟨d, hd, hvd⟩ := hda.get hv
          rw [List.getElem?_map] at hd
          obtain ⟨sig, hsig, rfl⟩ := Option.map_eq_some_iff.mp hd
          cases hvd
          have sm := List.mem_of_getElem? hsig
          have tk : sigs.take (m + 1) = sigs.take m ++ [sig] := by rw [List.take_succ, hsig]; rfl
          walk_at "rd"
          refine ⟨x, wh, sig, ss, rate, rfl, hx.ex e', fun r e => (r2 r e).1, fun G1 e1 => ?_⟩
          have E1 := e'.trans e1
          refine go_name ?_
          dsimp only
          with_reducible refine' go_ifS ?_
          refine cut_t (tt := tAnd _ _) (fun c G3 => G3 = G1 ∧ (c = true ↔ due = none ∧ dialF ss rate sig b0 b1 wh = true)) (fun Q' q => ?_) ?_
          · obtain ⟨ab, rfl, hab⟩ := dq_pair (hb.ex E1)
            walk_at "rd"
            cases due with
            | some s =>
              refine ite2 (fun c => absurd c (by simp [optV])) (fun _ => ?_)
              exact q _ _ ⟨rfl, ⟨fun z => (nomatch z), fun z => (nomatch z.1)⟩⟩
            | none =>
              refine iteT ?_
              walk_at "rd"
              cases ht : toneF wh ss rate sig with
              | none =>
                refine ite2 (fun c => absurd c (by simp [optV])) (fun _ => ?_)
                refine q _ _ ⟨rfl, ⟨fun z => (nomatch z), fun z => ?_⟩⟩
                have := z.2
                unfold dialF heardF at this
                rw [ht] at this
                cases this
              | some tn =>
                refine ite2 (fun _ => ?_) (fun c => absurd (by simp [optV]) c)
                rw [show optV (some tn) = V.int tn from rfl]
                have hb2 : dialF ss rate sig b0 b1 wh = (decide (b0 ≤ tn) && decide (tn ≤ b1)) := by
                  unfold dialF heardF
                  rw [ht]
                  rfl
                walk_at "rd"
                refine ite2 (fun c => ?_) (fun c => ?_)
                · walk_at "rd"
                  refine q _ _ ⟨rfl, ?_⟩
                  rw [hb2, c]
                  simp
                · refine ⟨false, rfl, q _ _ ⟨rfl, ?_⟩⟩
                  have c' : decide (b0 ≤ tn) = false := by simpa using c
                  rw [hb2, c']
                  simp
          rintro c G3 ⟨rfl, hc⟩
          refine ite2 (fun c1 => ?_) (fun c1 => ?_)
          · obtain ⟨rfl, hh⟩ := hc.mp c1
            walk_at "rd"
            refine ⟨some (0 + (i : Int)), _, _, rfl, E1, by omega, ?_⟩
            refine List.any_eq_true.mpr ⟨sig, sm, ?_⟩
            rw [← hwh']
            exact hh
          · walk_at "rd"
            refine ⟨due, _, _, rfl, E1, ?_⟩
            cases due with
            | some s => exact hdue
            | none =>
              dsimp only at hdue ⊢
              rw [tk, List.any_append, hdue, Bool.false_or]
              have : dialF ss rate sig b0 b1 wh = false := by
                cases q : dialF ss rate sig b0 b1 wh with
                | false => rfl
                | true => exact absurd (hc.mpr ⟨rfl, q⟩) c1
              simp [this]
        · rintro σ G' ⟨due, v10', v11', rfl, e', hdue⟩
          rw [hlx, List.take_length] at hdue
          walk_at "rd"
          cases due with
          | some s =>
            refine ite2 (fun _ => ?_) (fun c => absurd (by simp [optV]) c)
            walk_at "rd"
            obtain ⟨rfl, hs⟩ := hdue
            exact hnx _ _ ⟨some (i : Int), _, _, _, _, rfl, e', by omega, by omega, hs, no⟩
          | none =>
            refine ite2 (fun c => absurd c (by simp [optV])) (fun _ => ?_)
            walk_at "rd"
            refine ⟨_, _, _, _, rfl, e', fun i' a1 a2 => ?_⟩
            by_cases z : i' < (i : Int)
            · exact no i' a1 z
            · have : i' = (i : Int) := by omega
              subst this
              dsimp only at hdue
              unfold stopB
              rw [← hwh']
              exact hdue
      · rintro σ G ⟨v8, v9, v10, v11, rfl, eG, no⟩
        exact hnx _ _ ⟨none, _, _, _, _, rfl, eG, fun i a1 a2 => no i a1 a2⟩
    rintro _ G1 ⟨due, v8, v9, v10, v11, rfl, e1, hdue⟩
    walk_at "rd"
    refine ⟨rfl, ?_⟩
    refine go_stop (hx.ex e1) C (hg.ex e1) (fun s hs => (gs s hs).1) (fun s hs => nb3 s (by have := gs s hs; omega)) g1 g4 (dq_pair (hb.ex e1)) hb0 hb1 (Nat.lt_trans (nb b1 (by omega)) (by decide +kernel)) (nb3 start (by omega)) pc.1 (Nat.lt_of_le_of_lt (show pace.natAbs ≤ 9 by omega) (by decide +kernel)) fun o G2 e2 ho => ?_
    have eo : o = due := by
      cases due with
      | some s =>
        obtain ⟨a1, a2, a3, a4⟩ := hdue
        exact next_uniq ho ⟨a1, a3, a4⟩
      | none => exact next_uniq ho (stop_soon one R.le fi r2 gs hb2 sb.1 sb.2 pc.1 hdue)
    subst eo
    have fo : Fine 600 0 (rateD o) := fine_opt fun y hy => by
      subst hy
      exact nb y (by have := hdue.1; have := hdue.2.1; omega)
    have E2 := e1.trans e2
    walk_at "rd"
    refine go_repr (dq_opt _ _) fo (by decide) (by decide) ?_
    walk_at "rd"
    refine go_repr (dq_opt _ _) fo (by decide) (by decide) ?_
    walk_at "rd"
    refine ite2 (fun _ => ?_) (fun c => absurd (by simp) c)
    walk_at "rd"
    intro l2 hl2
    have xl := Ex.new (o := HO.lst [x, .ref ag, b]) hl2
    walk_at "rd"
    refine go_repr (d := argsD ss rate sigs b0 b1) (.lst (.inl upd_same) (.cons ((hx.ex E2).ex xl) (.cons ((hg.ex E2).ex xl) (.cons ((hb.ex E2).ex xl) .nil)))) fa (by decide) (by decide) ?_
    rw [ht]
    walk_at "rd"
    rw [decide_eq_true rfl]
    exact k _ ((jar_ex (E2.trans xl) J7).mono (by omega)) (Y7.tr (Jx.of (E2.trans xl)))
end
end Kx

set_option Elab.async false
set_option linter.all false
set_option maxRecDepth 100000
set_option maxHeartbeats 4000000
namespace Kx
open PySem PySem.Spec PyProof.Rows L2 HX
def ssA : List Stg := [.dial 0, .pass 3 6, .mix 4]
theorem stA {sig d : Int} : dialF ssA none sig 0 0 d = true ↔ sig - d = 4 ∨ sig - d = -4 := by
  have e : mixF d ssA sig = if 3 ≤ absI (sig - d) ∧ absI (sig - d) ≤ 6 then some (absI (absI (sig - d) - 4)) else none := by
    show Stg.step d (.mix 4) (Stg.step d (.pass 3 6) (some (if sig - (d + 0) < 0 then -(sig - (d + 0)) else sig - (d + 0)))) = _
    rw [Int.add_zero]
    show Stg.step d (.mix 4) (if 3 ≤ absI (sig - d) ∧ absI (sig - d) ≤ 6 then some (absI (sig - d)) else none) = _
    split <;> rfl
  show bandB 0 0 (mixF d ssA sig) = true ↔ _
  rw [e]
  split
  · rename_i c
    show (decide (0 ≤ absI (absI (sig - d) - 4)) && decide (absI (absI (sig - d) - 4) ≤ 0)) = true ↔ _
    rw [Bool.and_eq_true, decide_eq_true_iff, decide_eq_true_iff]
    unfold absI at *
    (repeat' split at *) <;> omega
  · rename_i c
    unfold absI at c
    refine ⟨(fun h => nomatch h), fun h => ?_⟩
    (repeat' split at c) <;> omega
theorem sbA {st pc i : Int} : stopB ssA none [10, 12] 0 0 st pc i = true ↔ (10 - (st + pc * i) = 4 ∨ 10 - (st + pc * i) = -4) ∨ (12 - (st + pc * i) = 4 ∨ 12 - (st + pc * i) = -4) := by
  unfold stopB
  rw [List.any_cons, List.any_cons, List.any_nil, Bool.or_false, Bool.or_eq_true, stA, stA]
theorem not_true {b : Bool} (h : ¬ b = true) : b = false := by cases b <;> simp_all
theorem nextA : ∀ (i : Nat) (st pc : Int), [((0 : Int), (1 : Int)), (0, 4), (20, -1), (1, 10)][i]? = some (st, pc) → ∃ o, [some 6, some 2, some 4, none][i]? = some o ∧ IsNext (stopB ssA none [10, 12] 0 0 st pc) 0 o ∧ st.natAbs ≤ 80 ∧ pc ≠ 0 ∧ pc.natAbs ≤ 10
  | 0, st, pc, h => by
    cases h
    exact ⟨_, rfl, ⟨by decide, sbA.mpr (by decide), fun y h1 h2 => not_true fun h => by have := sbA.mp h; omega⟩, by decide, by decide, by decide⟩
  | 1, st, pc, h => by
    cases h
    exact ⟨_, rfl, ⟨by decide, sbA.mpr (by decide), fun y h1 h2 => not_true fun h => by have := sbA.mp h; omega⟩, by decide, by decide, by decide⟩
  | 2, st, pc, h => by
    cases h
    exact ⟨_, rfl, ⟨by decide, sbA.mpr (by decide), fun y h1 h2 => not_true fun h => by have := sbA.mp h; omega⟩, by decide, by decide, by decide⟩
  | 3, st, pc, h => by
    cases h
    exact ⟨_, rfl, fun y h1 => not_true fun h => by have := sbA.mp h; omega, by decide, by decide, by decide⟩
  | _ + 4, _, _, h => by cases h
theorem vsA : Vs ssA none := Vs.of (b := 10) ⟨by decide, by decide, by
  intro s hs
  simp only [ssA, List.mem_cons, List.not_mem_nil, or_false] at hs
  rcases hs with rfl | rfl | rfl
  · exact ⟨by decide, by decide⟩
  · exact ⟨by decide, by decide, by decide⟩
  · exact ⟨by decide, by decide⟩, by decide, fun r z => nomatch z⟩ (by decide +kernel) (by decide)
end Kx

set_option Elab.async false
set_option linter.all false
set_option maxRecDepth 100000
set_option maxHeartbeats 4000000

namespace Kx
open PySem PySem.Spec PyProof.Rows L2 HX
open Evl (Ex)
local macro_rules | `(tactic| walk_at "side") => `(tactic| first | assumption | ((try dsimp only); first | assumption | decide +kernel | omega | exact ⟨by decide, by decide⟩ | (left; decide) | (left; omega) | (refine Or.inl ⟨?_, ?_⟩ <;> omega) | (refine Or.inr ⟨?_, ?_⟩ <;> omega)))
local macro_rules | `(tactic| walk_at "heap") => `(tactic| first | assumption | exact upd_same | exact Or.inl (by assumption) | exact Or.inl upd_same)
local macro_rules | `(tactic| walk_at "item") => `(tactic| first | exact rfl | exact atI_nat (j := 0) rfl | exact atI_nat (j := 1) rfl | exact atI_nat (j := 2) rfl | assumption)
local macro_rules | `(tactic| walk_at "rd") => `(tactic| repeat (first
  | ((with_reducible refine' go_var ?hv ?_); (case hv => exact rfl))
  | with_reducible refine' go_c ?_
  | with_reducible refine' go_op ?_
  | with_reducible refine' go_seq ?_
  | with_reducible refine' go_asg ?_
  | with_reducible refine' go_name ?_
  | with_reducible refine' go_cons ?_
  | with_reducible refine' go_nil ?_
  | with_reducible refine' go_cb ?_
  | with_reducible refine' go_call ?_
  | with_reducible refine' go_ifS ?_
  | with_reducible refine' go_test ?_
  | with_reducible refine' go_bl ?_
  | with_reducible refine' go_ret ?_
  | with_reducible refine' go_I0 ?_
  | ((with_reducible refine' go_I ?cc ?_); (case cc => walk_at "side"))
  | ((with_reducible refine' go_ixL ?hh ?hk ?_); (case hh => walk_at "heap"); (case hk => walk_at "item"))
  | ((with_reducible refine' go_ixT ?hh ?hk ?_); (case hh => walk_at "heap"); (case hk => walk_at "item"))
  | ((with_reducible refine' go_lenL ?hh ?_); (case hh => walk_at "heap"))
  | ((with_reducible refine' go_lenT ?hh ?_); (case hh => walk_at "heap"))
  | ((with_reducible refine' go_setL ?hh ?hk ?_); (case hh => walk_at "heap"); (case hk => walk_at "item"))
  | with_reducible refine' go_abs ?_
  | with_reducible refine' go_max ?_
  | with_reducible refine' go_min ?_
  | with_reducible refine' go_int ?_
  | with_reducible refine' go_intB ?_
  | (with_reducible refine' go_eq rfl ?_)
  | (with_reducible refine' go_ne rfl ?_)
  | with_reducible refine' go_isN ?_
  | with_reducible refine' go_notN ?_
  | with_reducible refine' go_if ?_
  | with_reducible refine' go_sub ?_
  | with_reducible refine' go_par ?_
  | with_reducible refine' go_sl ?_
  | with_reducible refine' go_part ?_
  | with_reducible refine' go_pint ?_
  | with_reducible refine' go_nopart ?_
  | ((with_reducible refine' go_lenL ?hh ?_); (case hh => walk_at "heap"))
  | ((with_reducible refine' go_lenT ?hh ?_); (case hh => walk_at "heap"))
  | ((with_reducible refine' go_lenS ?hh ?_); (case hh => assumption))
  | with_reducible refine' go_gcons ?_
  | with_reducible refine' go_gnil ?_
  | with_reducible refine' go_kw ?_
  | with_reducible refine' go_par2 ?_
  | with_reducible refine' go_next ?_
  | with_reducible refine' go_drop ?_
  | with_reducible refine' go_and ?_
  | with_reducible refine' go_or ?_
  | with_reducible refine' go_not ?_
  | with_reducible refine' go_B ?_
  | with_reducible refine' go_andV ?_
  | with_reducible refine' go_orV ?_
  | with_reducible refine' go_notV ?_
  | with_reducible refine' go_chain ?_
  | with_reducible refine' go_un ?_
  | with_reducible refine' go_U ?_
  | with_reducible refine' go_bm ?_
  | with_reducible refine' go_tup ?_
  | with_reducible refine' go_lst ?_
  | with_reducible refine' go_forR1 ?_
  | with_reducible refine' go_forR2 ?_
  | with_reducible refine' go_forL ?_
  | with_reducible refine' go_forT ?_
  | with_reducible refine' go_forE ?_
  | with_reducible refine' go_lcR1 ?_
  | with_reducible refine' go_lcL ?_
  | with_reducible refine' go_lcT ?_
  | ((with_reducible refine' go_tyL ?hh ?_); (case hh => walk_at "heap"))
  | ((with_reducible refine' go_new ?hz ?_); (case hz => exact Nat.le_of_ble_eq_true rfl))
  | (with_reducible refine' ⟨_, rfl, ?_⟩)
  ))
--MACEND
def spKind : Sp := fun vs H Q _ => ∃ (j : Addr) (most wide : Int) (n : Nat), vs = [.ref j, .int most, .int wide] ∧ JarAt n H j ∧ n < 2 ^ 40 ∧ 0 ≤ most ∧ most ≤ 8 ∧ 1 ≤ wide ∧ wide < 2 ^ 200 ∧
  ∀ (p l : Addr) (xs : List V) (ss : List Stg) (rate : Option Int) (H' : Hp), Rad (10 * (wide + 8) + 20) ss rate → (∀ s ∈ ss, s.fine (wide + 8)) → (ss.length : Int) ≤ (if most > 0 then most else 8) → dials ss = 1 → (∀ r, rate = some r → r ≤ wide + 10) → JarAt (n + 100) H' j → Jx [j] H H' → H p = none → H l = none → p ≠ l → p ≠ j → l ≠ j →
    H' p = some (.tup [.ref l, optV rate]) → H' l = some (.lst xs) → Tps H' xs (ss.map Stg.vals) → Q (.ref p) H'
section
variable {P : Program} {w : World} {K : PySem.W.Frag} {mg : Str → Option Value} {base : Heap}
abbrev s__law_kind : Stmt := top 63
theorem sc__law_kind : FnScope ["stock", "most", "wide", "count", "found", "spot", "turn", "lo_here", "way_here", "span", "rates"] ["stock", "most", "wide"] (defScope s__law_kind) := ⟨rfl, rfl, rfl, by decide +kernel, rfl, by decide +kernel, by decide +kernel⟩
theorem ok_kind {f : Addr} {fd : FuncData} (F : Fun K "_law_kind" "_law_kind" s__law_kind f fd) (m_range : mg "range" = none) (h__law_draw : Has P w K mg base 1 "_law_draw" spPick) :
    FnOk P w K mg base CX0 2 f fd ["stock", "most", "wide"] spKind := by
  refine F.ok sc__law_kind (fun vs H Q E h => ?_) (fun cdv A outer s H vs Q E hr h => ?_)
  · obtain ⟨j, deep, top, n, rfl, _⟩ := h
    rfl
  · obtain ⟨j, most, wide, n, rfl, hJ, hn, hm0, hm8, ht1, ht2, k⟩ := h
    refine ⟨_, (pss_cons (ps_par (i := 3) (j := 4) (by rfl) sc__law_kind.nd rfl rfl (by decide) rfl rfl (pa_cons (pe_ifExp (pt_cmpR op_gt (pv 1) pe_int (nomark _)) (pe_op op_add pe_int (pe_hs h__law_draw hr rfl (pa_cons (pv 0) (pa_cons (pv 1) pa_nil)))) pe_int) (pa_cons (pe_lst pa_nil) pa_nil)) (by rfl))
  (pss_cons (ps_set (i := 5) sc__law_kind.nd rfl (Or.inl rfl) (pe_hs h__law_draw hr rfl (pa_cons (pv 0) (pa_cons (pv 3) pa_nil))))
  (pss_cons (ps_for PassesOwn.never rfl (pi_range1 (by rfl) m_range (pa_cons (pv 3) pa_nil)) (pg_name (i := 6) sc__law_kind.nd rfl (Or.inl rfl))
  (pss_cons (ps_par (i := 7) (j := 8) (by rfl) sc__law_kind.nd rfl rfl (by decide) rfl rfl (pa_cons (pe_ix ix_list (pe_lst (pa_cons pe_int (pa_cons (pe_hs h__law_draw hr rfl (pa_cons (pv 0) (pa_cons (pv 2) pa_nil))) (pa_cons (pe_hs h__law_draw hr rfl (pa_cons (pv 0) (pa_cons pe_int pa_nil))) pa_nil)))) (pe_hs h__law_draw hr rfl (pa_cons (pv 0) (pa_cons pe_int pa_nil))) (fun _ _ => rfl)) (pa_cons (pe_hs h__law_draw hr rfl (pa_cons (pv 0) (pa_cons pe_int pa_nil))) pa_nil)) (by rfl))
  (pss_one (ps_if (pt_cmpR op_eq (pv 6) (pv 5) (nomark _))
  (pss_one (ps_expr (pe_bm PySem.F.plainAttrs_list PySem.F.slot_list_append PySem.F.type_list_append mt_append (pv 4) (pa_cons (pe_tup (pa_cons pe_str (pa_cons (pe_ix ix_list (pe_lst (pa_cons pe_int (pa_cons (pv 7) (pa_cons (pe_op op_sub pe_int (pv 7)) pa_nil)))) (pe_hs h__law_draw hr rfl (pa_cons (pv 0) (pa_cons pe_int pa_nil))) (fun _ _ => rfl)) pa_nil))) pa_nil))))
  (pss_one (ps_if (pt_cmpR op_lt (pv 8) pe_int (nomark _))
  (pss_one (ps_expr (pe_bm PySem.F.plainAttrs_list PySem.F.slot_list_append PySem.F.type_list_append mt_append (pv 4) (pa_cons (pe_tup (pa_cons pe_str (pa_cons (pv 7) pa_nil))) pa_nil))))
  (pss_cons (ps_set (i := 9) sc__law_kind.nd rfl (Or.inl rfl) (pe_ix ix_list (pe_lst (pa_cons pe_int (pa_cons (pe_op op_add pe_int (pe_hs h__law_draw hr rfl (pa_cons (pv 0) (pa_cons (pv 2) pa_nil)))) (pa_cons (pe_op op_add pe_int (pe_hs h__law_draw hr rfl (pa_cons (pv 0) (pa_cons (pe_op op_mul pe_int (pv 2)) pa_nil)))) (pa_cons (pe_op op_mul pe_int (pv 2)) pa_nil))))) (pe_hs h__law_draw hr rfl (pa_cons (pv 0) (pa_cons pe_int pa_nil))) (fun _ _ => rfl)))
  (pss_one (ps_expr (pe_bm PySem.F.plainAttrs_list PySem.F.slot_list_append PySem.F.type_list_append mt_append (pv 4) (pa_cons (pe_tup (pa_cons pe_str (pa_cons (pe_ix ix_list (pe_lst (pa_cons pe_int (pa_cons (pv 7) pa_nil))) (pe_hs h__law_draw hr rfl (pa_cons (pv 0) (pa_cons pe_int pa_nil))) (fun _ _ => rfl)) (pa_cons (pe_op op_add (pv 7) (pv 9)) pa_nil)))) pa_nil)))))))))))
  (pss_cons (ps_set (i := 10) sc__law_kind.nd rfl (Or.inl rfl) (pe_lst (pa_cons pe_non (pa_cons pe_non (pa_cons pe_int (pa_cons pe_int (pa_cons (pe_op op_add pe_int (pe_hs h__law_draw hr rfl (pa_cons (pv 0) (pa_cons pe_int pa_nil)))) (pa_cons (pe_op op_add pe_int (pe_hs h__law_draw hr rfl (pa_cons (pv 0) (pa_cons (pv 2) pa_nil)))) pa_nil))))))))
  (pss_one (ps_ret (pe_tup (pa_cons (pv 4) (pa_cons (pe_ix ix_list (pv 10) (pe_hs h__law_draw hr rfl (pa_cons (pv 0) (pa_cons pe_int pa_nil))) (fun _ _ => rfl)) pa_nil))))))))), ?_⟩
    refine cut_s (fun σ G => ∃ (c : Int) (l : Addr), σ = [some (.ref j), some (.int most), some (.int wide), some (.int c), some (.ref l), none, none, none, none, none, none] ∧ 1 ≤ c ∧ c ≤ 8 ∧ c ≤ (if most > 0 then most else 8) ∧ Grw j H l [] [] G ∧ JarAt (n + 1) G j) (fun D' _ _ _ hnx => ?_) ?_
    · walk_at "rd"
      refine ite2 (fun c => ?_) (fun c => ?_)
      · have c : 0 < most := of_decide_eq_true c
        walk_at "rd"
        refine pick_go hJ (by omega) (by omega) (by omega) fun c0 H1 c00 c01 J1 x1 => ?_
        walk_at "rd"
        intro l hl
        have hl0 := J1.fresh x1 hl
        have hlj : l ≠ j := fresh_ne J1.obj.choose_spec hl
        walk_at "rd"
        refine hnx _ _ ⟨1 + c0, l, rfl, by omega, by omega, by rw [if_pos c]; omega, ⟨x1.tr (Jx.new hl), hl0, hlj, upd_same, .nil⟩, J1.lay hl⟩
      · have c : ¬ 0 < most := fun z => c (decide_eq_true z)
        walk_at "rd"
        intro l hl
        have hlj : l ≠ j := fresh_ne hJ.obj.choose_spec hl
        walk_at "rd"
        refine hnx _ _ ⟨8, l, rfl, by omega, by omega, by rw [if_neg c]; omega, ⟨Jx.new hl, hl, hlj, upd_same, .nil⟩, (hJ.lay hl).mono (by omega)⟩
    rintro _ G0 ⟨cn, l, rfl, cn1, cn8, cnm, g0, J0⟩
    have hlj := g0.lj
    walk_at "rd"
    refine pick_go J0 (by omega) (by omega) (by omega) fun spot H2 s0 s1 J2 x2 => ?_
    have g2 := g0.pick J0 x2
    walk_at "rd"
    refine ⟨by omega, by omega, ?_⟩
    refine run_forR (fun i σ G => ∃ (vs : List V) (ss : List Stg) (v6 v7 v8 v9 : Option V), σ = [some (.ref j), some (.int most), some (.int wide), some (.int cn), some (.ref l), some (.int spot), v6, v7, v8, v9, none] ∧
        Grw j H l vs (ss.map Stg.vals) G ∧ JarAt (n + 2 + 8 * i) G j ∧ ss.length = i ∧ (∀ s ∈ ss, s.fine (wide + 8)) ∧ dials ss = (if spot < (i : Int) then 1 else 0)) ?_ ?_ ?_
    · exact ⟨[], [], _, _, _, _, rfl, g2, J2.mono (by omega), rfl, (fun _ h => nomatch h), by rw [if_neg (by omega)]; rfl⟩
    · rintro i σ G hi ⟨vs, ss, v6, v7, v8, v9, rfl, g, J, hlen, hok, hone⟩
      have hi8 : i < 8 := by omega
      have hlen' : vs.length = i := by rw [g.T.len, List.length_map, hlen]
      have fin : ∀ (G' : Hp) (vs' : List V) (st : Stg) (m : Nat) (u7 u8 u9 : Option V), Grw j H l vs' ((ss ++ [st]).map Stg.vals) G' → JarAt m G' j → m ≤ n + 2 + 8 * (i + 1) → st.fine (wide + 8) → (st.isDial = true ↔ spot = (i : Int)) →
          ∃ (vs : List V) (ss : List Stg) (v6 v7 v8 v9 : Option V), [some (.ref j), some (.int most), some (.int wide), some (.int cn), some (.ref l), some (.int spot), some (V.int (0 + (i : Int))), u7, u8, u9, none] = [some (.ref j), some (.int most), some (.int wide), some (.int cn), some (.ref l), some (.int spot), v6, v7, v8, v9, none] ∧
            Grw j H l vs (ss.map Stg.vals) G' ∧ JarAt (n + 2 + 8 * (i + 1)) G' j ∧ ss.length = i + 1 ∧ (∀ s ∈ ss, s.fine (wide + 8)) ∧ dials ss = (if spot < ((i + 1 : Nat) : Int) then 1 else 0) :=
        fun G' vs' st m u7 u8 u9 g' J' hm hst hd => ⟨vs', ss ++ [st], _, _, _, _, rfl, g', J'.mono hm, by simp [hlen], fun s hs => by
          rcases List.mem_append.mp hs with hs | hs
          · exact hok s hs
          · rw [List.mem_singleton.mp hs]; exact hst, by
          rw [dials_app, hone]
          by_cases b : spot = (i : Int)
          · rw [hd.mpr b, if_neg (show ¬ spot < (i : Int) by omega), if_pos rfl, if_pos (show spot < ((i + 1 : Nat) : Int) by omega)]
          · have nd : st.isDial = false := by
              cases q : st.isDial with
              | false => rfl
              | true => exact absurd (hd.mp q) b
            rw [nd]
            by_cases c : spot < (i : Int)
            · rw [if_pos c, if_pos (show spot < ((i + 1 : Nat) : Int) by omega)]
              rfl
            · rw [if_neg c, if_neg (show ¬ spot < ((i + 1 : Nat) : Int) by omega)]
              rfl⟩
      have len9 : vs.length < sizeLine := Nat.lt_of_le_of_lt (by omega : vs.length ≤ 8) (by rw [sizeLine_eq]; decide)
      walk_at "rd"
      refine pick_go J (by omega) (by omega) (by omega) fun z G1 z0 z1 J1 y1 => ?_
      have g1 := g.pick J y1
      walk_at "rd"
      refine pick_go J1 (by omega) (by decide) (by decide) fun z2 G2 z20 z21 J2 y2 => ?_
      have g2 := g1.pick J1 y2
      walk_at "rd"
      intro p hp
      have g3 := g2.lay (o := .lst [.int 0, .int z, .int z2]) hp
      have J3 := J2.lay (o := .lst [.int 0, .int z, .int z2]) hp
      walk_at "rd"
      refine pick_go J3 (by omega) (by decide) (by decide) fun u G4 u0 u1 J4 y4 => ?_
      have hp4 := y4.get (upd_same (H := G2) (a := p) (o := .lst [.int 0, .int z, .int z2])) (nin1 (fresh_ne J2.obj.choose_spec hp))
      have g4 := g3.pick J3 y4
      obtain ⟨lo, el, l0, l1⟩ := menu_int [0, z, z2] 0 (wide + 8) u0 (by simpa using u1) (by simp; omega)
      refine go_ixL (.inl hp4) el ?_
      walk_at "rd"
      refine pick_go J4 (by omega) (by decide) (by decide) fun way G5 w0 w1 J5 y5 => ?_
      have g5 := g4.pick J4 y5
      have hl5 := g5.at_
      walk_at "rd"
      refine ite2 (fun c => ?_) (fun c => ?_)
      · have hsp : spot = (i : Int) := by have := of_decide_eq_true c; injection this with this; omega
        walk_at "rd"
        intro p2 hp2
        have g6 := g5.lay (o := .lst [.int 0, .int lo, .int (0 - lo)]) hp2
        have J6 := J5.lay (o := .lst [.int 0, .int lo, .int (0 - lo)]) hp2
        walk_at "rd"
        refine pick_go J6 (by omega) (by decide) (by decide) fun u2 G7 u20 u21 J7 y7 => ?_
        have hp7 := y7.get (upd_same (H := G5) (a := p2) (o := .lst [.int 0, .int lo, .int (0 - lo)])) (nin1 (fresh_ne J5.obj.choose_spec hp2))
        have g7 := g6.pick J6 y7
        obtain ⟨ad, ea, a0, a1⟩ := menu_int [0, lo, 0 - lo] (-(wide + 8)) (wide + 8) u20 (by simpa using u21) (by simp; omega)
        refine go_ixL (.inl hp7) ea ?_
        have hl7 := g7.at_
        walk_at "rd"
        intro q hq
        have gA := g7.lay (o := .tup [.str "dial", .int ad]) hq
        have JA := J7.lay (o := .tup [.str "dial", .int ad]) hq
        have hqA := upd_same (H := G7) (a := q) (o := HO.tup [.str "dial", .int ad])
        generalize upd G7 q (.tup [.str "dial", .int ad]) = GA at *
        walk_at "rd"
        refine go_app gA.at_ len9 ?_
        exact fin _ _ (.dial ad) _ _ _ _ (by rw [List.map_append]; exact gA.app hqA) (JA.keep (upd_ne hlj.symm)) (by omega) ⟨by omega, by omega⟩ ⟨fun _ => hsp, fun _ => rfl⟩
      · have hsp : ¬ spot = (i : Int) := fun z => c (decide_eq_true (by rw [z]; congr 1; omega))
        walk_at "rd"
        refine ite2 (fun c2 => ?_) (fun c2 => ?_)
        · walk_at "rd"
          intro q hq
          have gA := g5.lay (o := .tup [.str "mix", .int lo]) hq
          have JA := J5.lay (o := .tup [.str "mix", .int lo]) hq
          have hqA := upd_same (H := G5) (a := q) (o := HO.tup [.str "mix", .int lo])
          generalize upd G5 q (.tup [.str "mix", .int lo]) = GA at *
          walk_at "rd"
          refine go_app gA.at_ len9 ?_
          exact fin _ _ (.mix lo) _ _ _ _ (by rw [List.map_append]; exact gA.app hqA) (JA.keep (upd_ne hlj.symm)) (by omega) ⟨by omega, by omega⟩ ⟨fun z => (nomatch z), fun z => absurd z hsp⟩
        · walk_at "rd"
          refine pick_go J5 (by omega) (by omega) (by omega) fun a1 G6 a10 a11 J6 y6 => ?_
          have g6 := g5.pick J5 y6
          walk_at "rd"
          refine pick_go J6 (by omega) (by omega) (by omega) fun a2 G7 a20 a21 J7 y7 => ?_
          have g7 := g6.pick J6 y7
          walk_at "rd"
          intro p2 hp2
          have g8 := g7.lay (o := .lst [.int 0, .int (1 + a1), .int (1 + a2), .int (9 * wide)]) hp2
          have J8 := J7.lay (o := .lst [.int 0, .int (1 + a1), .int (1 + a2), .int (9 * wide)]) hp2
          walk_at "rd"
          refine pick_go J8 (by omega) (by decide) (by decide) fun u2 G9 u20 u21 J9 y9 => ?_
          have hp9 := y9.get (upd_same (H := G7) (a := p2) (o := .lst [.int 0, .int (1 + a1), .int (1 + a2), .int (9 * wide)])) (nin1 (fresh_ne J7.obj.choose_spec hp2))
          have g9 := g8.pick J8 y9
          obtain ⟨more, em, m0, m1⟩ := menu_int [0, 1 + a1, 1 + a2, 9 * wide] 0 (9 * wide) u20 (by simpa using u21) (by simp; omega)
          refine go_ixL (.inl hp9) em ?_
          have hl9 := g9.at_
          walk_at "rd"
          intro p3 hp3
          have gB := g9.lay (o := .lst [.int 0, .int lo]) hp3
          have JB := J9.lay (o := .lst [.int 0, .int lo]) hp3
          walk_at "rd"
          refine pick_go JB (by omega) (by decide) (by decide) fun u3 GC u30 u31 JC yC => ?_
          have hpC := yC.get (upd_same (H := G9) (a := p3) (o := .lst [.int 0, .int lo])) (nin1 (fresh_ne J9.obj.choose_spec hp3))
          have gC := gB.pick JB yC
          have lo2 : ∃ low, atI [.int 0, .int lo] u3 = some (V.int low) ∧ 0 ≤ low ∧ low ≤ lo := menu_int [0, lo] 0 lo u30 (by simpa using u31) (by simp; omega)
          obtain ⟨low, ew, q0, q1⟩ := lo2
          refine go_ixL (.inl hpC) ew ?_
          have hlC := gC.at_
          walk_at "rd"
          intro q hq
          have gA := gC.lay (o := .tup [.str "pass", .int low, .int (lo + more)]) hq
          have JA := JC.lay (o := .tup [.str "pass", .int low, .int (lo + more)]) hq
          have hqA := upd_same (H := GC) (a := q) (o := HO.tup [.str "pass", .int low, .int (lo + more)])
          generalize upd GC q (.tup [.str "pass", .int low, .int (lo + more)]) = GA at *
          walk_at "rd"
          refine go_app gA.at_ len9 ?_
          exact fin _ _ (.pass low (lo + more)) _ _ _ _ (by rw [List.map_append]; exact gA.app hqA) (JA.keep (upd_ne hlj.symm)) (by omega) ⟨by omega, by omega, by omega⟩ ⟨fun z => (nomatch z), fun z => absurd z hsp⟩
    · rintro σ G ⟨vs, ss, v6, v7, v8, v9, rfl, g, J, hlen, hok, hone⟩
      walk_at "rd"
      refine pick_go J (by omega) (by decide) (by decide) fun z G1 z0 z1 J1 y1 => ?_
      have g1 := g.pick J y1
      walk_at "rd"
      refine pick_go J1 (by omega) (by omega) (by omega) fun z2 G2 z20 z21 J2 y2 => ?_
      have g2 := g1.pick J1 y2
      walk_at "rd"
      intro p hp
      have g3 := g2.lay (o := .lst [.non, .non, .int 2, .int 3, .int (2 + z), .int (2 + z2)]) hp
      have J3 := J2.lay (o := .lst [.non, .non, .int 2, .int 3, .int (2 + z), .int (2 + z2)]) hp
      walk_at "rd"
      refine pick_go J3 (by omega) (by omega) (by omega) fun u G4 u0 u1 J4 y4 => ?_
      have hp4 := y4.get (upd_same (H := G2) (a := p) (o := .lst [.non, .non, .int 2, .int 3, .int (2 + z), .int (2 + z2)])) (nin1 (fresh_ne J2.obj.choose_spec hp))
      have g4 := g3.pick J3 y4
      have rr : ∀ r : Int, 2 ≤ r → r ≤ wide + 10 → ∀ r', some r = some r' → 2 ≤ r' ∧ r' ≤ wide + 10 := fun r h1 h2 r' e => by
        cases e
        exact ⟨h1, h2⟩
      have cc : u = 0 ∨ u = 1 ∨ u = 2 ∨ u = 3 ∨ u = 4 ∨ u = 5 := by omega
      obtain ⟨rate, hv, hr⟩ : ∃ (rate : Option Int), atI [.non, .non, .int 2, .int 3, .int (2 + z), .int (2 + z2)] u = some (optV rate) ∧ (∀ r, rate = some r → 2 ≤ r ∧ r ≤ wide + 10) := by
        rcases cc with rfl | rfl | rfl | rfl | rfl | rfl
        · exact ⟨none, rfl, fun _ z => nomatch z⟩
        · exact ⟨none, rfl, fun _ z => nomatch z⟩
        · exact ⟨some 2, rfl, rr _ (by omega) (by omega)⟩
        · exact ⟨some 3, rfl, rr _ (by omega) (by omega)⟩
        · exact ⟨some (2 + z), rfl, rr _ (by omega) (by omega)⟩
        · exact ⟨some (2 + z2), rfl, rr _ (by omega) (by omega)⟩
      refine go_ixL (.inl hp4) hv ?_
      walk_at "rd"
      intro q hq
      have g5 := g4.lay (o := .tup [.ref l, optV rate]) hq
      have J5 := J4.lay (o := .tup [.ref l, optV rate]) hq
      have hc : (cn.toNat : Int) = cn := by omega
      have hone' : dials ss = 1 := by
        rw [hone, if_pos (by omega)]
      refine k q l vs ss rate _ ⟨fun z => by rw [z] at hlen; simp at hlen; omega, by omega, fun s hs => (hok s hs).ok' (by omega) (by omega), by rw [hone']; exact Nat.le_refl _, fun r e => ⟨(hr r e).1, by have := (hr r e).2; omega⟩⟩ hok (by omega) hone' (fun r e => (hr r e).2) (J5.mono (by omega)) g5.X (J4.fresh g4.X hq) g.new (fresh_ne g4.at_ hq) (fresh_ne J4.obj.choose_spec hq) hlj upd_same g5.at_ g5.T
end
end Kx

set_option Elab.async false
set_option linter.all false
set_option maxRecDepth 100000
set_option maxHeartbeats 4000000

namespace Kx
open PySem PySem.Spec PyProof.Rows L2 HX
open Evl (Ex)
local macro_rules | `(tactic| walk_at "side") => `(tactic| first | assumption | ((try dsimp only); first | assumption | decide +kernel | omega | exact ⟨by decide, by decide⟩ | (left; decide) | (left; omega) | (refine Or.inl ⟨?_, ?_⟩ <;> omega) | (refine Or.inr ⟨?_, ?_⟩ <;> omega)))
local macro_rules | `(tactic| walk_at "heap") => `(tactic| first | assumption | exact upd_same | exact Or.inl (by assumption) | exact Or.inl upd_same)
local macro_rules | `(tactic| walk_at "item") => `(tactic| first | exact rfl | exact atI_nat (j := 0) rfl | exact atI_nat (j := 1) rfl | exact atI_nat (j := 2) rfl | assumption)
local macro_rules | `(tactic| walk_at "rd") => `(tactic| repeat (first
  | ((with_reducible refine' go_var ?hv ?_); (case hv => exact rfl))
  | with_reducible refine' go_c ?_
  | with_reducible refine' go_op ?_
  | with_reducible refine' go_seq ?_
  | with_reducible refine' go_asg ?_
  | with_reducible refine' go_name ?_
  | with_reducible refine' go_cons ?_
  | with_reducible refine' go_nil ?_
  | with_reducible refine' go_cb ?_
  | with_reducible refine' go_call ?_
  | with_reducible refine' go_ifS ?_
  | with_reducible refine' go_test ?_
  | with_reducible refine' go_bl ?_
  | with_reducible refine' go_ret ?_
  | with_reducible refine' go_I0 ?_
  | ((with_reducible refine' go_I ?cc ?_); (case cc => walk_at "side"))
  | ((with_reducible refine' go_ixL ?hh ?hk ?_); (case hh => walk_at "heap"); (case hk => walk_at "item"))
  | ((with_reducible refine' go_ixT ?hh ?hk ?_); (case hh => walk_at "heap"); (case hk => walk_at "item"))
  | ((with_reducible refine' go_lenL ?hh ?_); (case hh => walk_at "heap"))
  | ((with_reducible refine' go_lenT ?hh ?_); (case hh => walk_at "heap"))
  | ((with_reducible refine' go_setL ?hh ?hk ?_); (case hh => walk_at "heap"); (case hk => walk_at "item"))
  | with_reducible refine' go_abs ?_
  | with_reducible refine' go_max ?_
  | with_reducible refine' go_min ?_
  | with_reducible refine' go_int ?_
  | with_reducible refine' go_intB ?_
  | (with_reducible refine' go_eq rfl ?_)
  | (with_reducible refine' go_ne rfl ?_)
  | with_reducible refine' go_isN ?_
  | with_reducible refine' go_notN ?_
  | with_reducible refine' go_if ?_
  | with_reducible refine' go_sub ?_
  | with_reducible refine' go_par ?_
  | with_reducible refine' go_sl ?_
  | with_reducible refine' go_part ?_
  | with_reducible refine' go_pint ?_
  | with_reducible refine' go_nopart ?_
  | ((with_reducible refine' go_lenL ?hh ?_); (case hh => walk_at "heap"))
  | ((with_reducible refine' go_lenT ?hh ?_); (case hh => walk_at "heap"))
  | ((with_reducible refine' go_lenS ?hh ?_); (case hh => assumption))
  | with_reducible refine' go_gcons ?_
  | with_reducible refine' go_gnil ?_
  | with_reducible refine' go_kw ?_
  | with_reducible refine' go_par2 ?_
  | with_reducible refine' go_next ?_
  | with_reducible refine' go_drop ?_
  | with_reducible refine' go_and ?_
  | with_reducible refine' go_or ?_
  | with_reducible refine' go_not ?_
  | with_reducible refine' go_B ?_
  | with_reducible refine' go_andV ?_
  | with_reducible refine' go_orV ?_
  | with_reducible refine' go_notV ?_
  | with_reducible refine' go_chain ?_
  | with_reducible refine' go_un ?_
  | with_reducible refine' go_U ?_
  | with_reducible refine' go_bm ?_
  | with_reducible refine' go_tup ?_
  | with_reducible refine' go_lst ?_
  | with_reducible refine' go_forR1 ?_
  | with_reducible refine' go_forR2 ?_
  | with_reducible refine' go_forL ?_
  | with_reducible refine' go_forT ?_
  | with_reducible refine' go_forE ?_
  | with_reducible refine' go_lcR1 ?_
  | with_reducible refine' go_lcL ?_
  | with_reducible refine' go_lcT ?_
  | ((with_reducible refine' go_tyL ?hh ?_); (case hh => walk_at "heap"))
  | ((with_reducible refine' go_new ?hz ?_); (case hz => exact Nat.le_of_ble_eq_true rfl))
  | (with_reducible refine' ⟨_, rfl, ?_⟩)
  ))
--MACEND
theorem go_eqT {K : PySem.W.Frag} {H : Hp} {Q : VK} {x y : V} {d e : PyData} (h1 : Dq H x d) (h2 : Dq H y e) (s1 : SeqAt.shaped d = true) (s2 : SeqAt.shaped e = true) (he : PyData.eqv d e = true) (q : Q (.bl true) H) : rEqD K x y H Q :=
  go_eqD h1 h2 s1 s2 (by rw [he]; exact q)
theorem dq_opts (H : Hp) : ∀ l : List (Option Int), DqAll H (l.map optV) (l.map rateD)
  | [] => .nil
  | z :: l => .cons (dq_opt H z) (dq_opts H l)
theorem cut_ite {c : Prop} [Decidable c] {ta tb : TE} {σ : L2.St} {H : Hp} {Q : VK} (R : V → Hp → Prop) (h : ∀ Q' : VK, (∀ v H', R v H' → Q' v H') → if c then ta σ H Q' else tb σ H Q') (k : ∀ v H', R v H' → Q v H') : if c then ta σ H Q else tb σ H Q := h Q k
def spLaw (K : PySem.W.Frag) : Sp := fun vs H Q _ => ∃ (a : Addr) (ns : List Int), vs = [.ref a] ∧ ns.length ≤ 63 ∧ SqL K H a (ns.map V.int) ∧ ∀ H', Q (.bl true) H'
section
variable {P : Program} {w : World} {K : PySem.W.Frag} {mg : Str → Option Value} {base : Heap} {CR CG CB CD CN CI : Addr}
abbrev s_law : Stmt := top 65
theorem sc_law : FnScope ["script", "stock", "turn", "kind", "numbers", "lap", "least", "band_here", "told", "start", "pace"] ["script"] (defScope s_law) := ⟨rfl, rfl, rfl, by decide +kernel, rfl, by decide +kernel, by decide +kernel⟩
theorem ok_law {f : Addr} {fd : FuncData} (F : Fun K "law" "law" s_law f fd) (m_range : mg "range" = none) (h__law_stock : Has P w K mg base 1 "_law_stock" (spStk K)) (h__law_draw : Has P w K mg base 1 "_law_draw" spPick) (h__law_kind : Has P w K mg base 2 "_law_kind" spKind) (h__law_right : HasG P w K mg base 9 "_law_right" spRight)
    (h_first_stop : HasX P w K mg base 8 "first_stop" (spStop CR CG CB CD CN CI)) : FnG P w K mg base CX0 10 f fd ["script"] (spLaw K) := by
  refine okG F sc_law (fun vs H Q E h => ?_) (fun cdv A outer s H vs Q E hgd hr h => ?_)
  · obtain ⟨a, ns, rfl, _⟩ := h
    rfl
  · obtain ⟨a, ns, rfl, hlen, hS, k⟩ := h
    refine ⟨_, PSs.nox ((pss_cons (ps_set (i := 1) sc_law.nd rfl (Or.inr rfl) (pe_hs h__law_stock hr rfl (pa_cons (pv 0) pa_nil)))
  (pss_cons (ps_for PassesOwn.never rfl (pi_range1 (by rfl) m_range (pa_cons pe_int pa_nil)) (pg_name (i := 2) sc_law.nd rfl (Or.inl rfl))
  (pss_cons (ps_set (i := 3) sc_law.nd rfl (Or.inr rfl) (pe_hs h__law_kind hr rfl (pa_cons (pv 1) (pa_cons (pe_ifExp (pt_cmpR op_gt (pv 2) pe_int (nomark _)) (pe_ix ix_list (pe_lst (pa_cons pe_int (pa_cons pe_int pa_nil))) (pe_hs h__law_draw hr rfl (pa_cons (pv 1) (pa_cons pe_int pa_nil))) (fun _ _ => rfl)) pe_int) (pa_cons pe_int pa_nil)))))
  (pss_cons (ps_setLc (i := 4) (own := [("lap", 5)]) (g := gName 5) (by rfl) sc_law.nd rfl rfl (sw_true rfl rfl rfl (by decide +kernel)) (pi_range1 (by rfl) m_range (pa_cons (pe_op op_add pe_int (pe_hs h__law_draw hr rfl (pa_cons (pv 1) (pa_cons pe_int pa_nil)))) pa_nil)) (blkOk_by (own := [("lap", 5)]) (N := ["script", "stock", "turn", "kind", "numbers", "lap", "least", "band_here", "told", "start", "pace"]) (sc := defScope s_law) (by decide +kernel)) (fun _ _ _ _ _ => pg_name (i := 5) (sc_law).nd rfl (Or.inl rfl)) (fun _ _ _ _ _ => pts_nil) (fun _ _ _ _ _ => (pe_hs h__law_draw hr rfl (pa_cons (pv 1) (pa_cons pe_int pa_nil)))))
  (pss_cons (ps_set (i := 6) sc_law.nd rfl (Or.inl rfl) (pe_ix ix_list (pe_lst (pa_cons pe_int (pa_cons pe_int (pa_cons (pe_hs h__law_draw hr rfl (pa_cons (pv 1) (pa_cons pe_int pa_nil))) pa_nil)))) (pe_hs h__law_draw hr rfl (pa_cons (pv 1) (pa_cons pe_int pa_nil))) (fun _ _ => rfl)))
  (pss_cons (ps_set (i := 7) sc_law.nd rfl (Or.inl rfl) (pe_tup (pa_cons (pv 6) (pa_cons (pe_op op_add (pv 6) (pe_ix ix_list (pe_lst (pa_cons pe_int (pa_cons pe_int (pa_cons (pe_hs h__law_draw hr rfl (pa_cons (pv 1) (pa_cons pe_int pa_nil))) pa_nil)))) (pe_hs h__law_draw hr rfl (pa_cons (pv 1) (pa_cons pe_int pa_nil))) (fun _ _ => rfl))) pa_nil))))
  (pss_one (ps_if (pt_not (pt_val (pe_hsG h__law_right hgd hr rfl (pa_cons (pv 1) (pa_cons (pv 3) (pa_cons (pv 4) (pa_cons (pv 7) pa_nil)))))))
  (pss_one (ps_ret pe_bl))
  pss_nil)))))))
  (pss_cons (ps_set (i := 3) sc_law.nd rfl (Or.inr rfl) (pe_tup (pa_cons (pe_lst (pa_cons (pe_tup (pa_cons pe_str (pa_cons pe_int pa_nil))) (pa_cons (pe_tup (pa_cons pe_str (pa_cons pe_int (pa_cons pe_int pa_nil)))) (pa_cons (pe_tup (pa_cons pe_str (pa_cons pe_int pa_nil))) pa_nil)))) (pa_cons pe_non pa_nil))))
  (pss_cons (ps_setLc (i := 8) (own := [("start", 9), ("pace", 10)]) (g := gTup K 2 (gCons (gName 9) (gCons (gName 10) (gNil)))) (by rfl) sc_law.nd rfl rfl (sw_true rfl rfl rfl (by decide +kernel)) (pi_list (pe_lst (pa_cons (pe_tup (pa_cons pe_int (pa_cons pe_int pa_nil))) (pa_cons (pe_tup (pa_cons pe_int (pa_cons pe_int pa_nil))) (pa_cons (pe_tup (pa_cons pe_int (pa_cons (pe_un un_neg pe_int) pa_nil))) (pa_cons (pe_tup (pa_cons pe_int (pa_cons pe_int pa_nil))) pa_nil)))))) (blkOk_by (own := [("start", 9), ("pace", 10)]) (N := ["script", "stock", "turn", "kind", "numbers", "lap", "least", "band_here", "told", "start", "pace"]) (sc := defScope s_law) (by decide +kernel)) (fun _ _ _ _ _ => pg_tup (by rfl) (pgs_cons (pg_name (i := 9) (sc_law).nd rfl (Or.inl rfl)) (pgs_cons (pg_name (i := 10) (sc_law).nd rfl (Or.inl rfl)) pgs_nil))) (fun _ _ _ _ _ => pts_nil) (fun _ _ _ _ _ => (pe_hs0X h_first_stop hr rfl (pa_cons (pv 3) (pa_cons (pe_lst (pa_cons pe_int (pa_cons pe_int pa_nil))) (pa_cons (pe_tup (pa_cons pe_int (pa_cons pe_int pa_nil))) (pa_cons (pv 9) (pa_cons (pv 10) pa_nil))))))))
  (pss_one (ps_ret (pe_cmpR (op_eqD hr.units) (pv 8) (pe_lst (pa_cons pe_int (pa_cons pe_int (pa_cons pe_int (pa_cons pe_non pa_nil))))) (nomark _))))))))), ?_⟩
    walk_at "rd"
    refine ⟨a, ns, rfl, hS, hlen, fun j G0 hj e0 hJ => ?_⟩
    walk_at "rd"
    refine ⟨by decide, by decide, ?_⟩
    refine run_forR (fun i σ G => ∃ v2 v3 v4 v6 v7 : Option V, σ = [some (.ref a), some (.ref j), v2, v3, v4, none, v6, v7, none, none, none] ∧ JarAt (200 * i) G j ∧ Jx [j] H G) ?_ ?_ ?_
    · exact ⟨_, _, _, _, _, rfl, hJ.mono (by omega), Jx.of e0⟩
    · rintro i σ G hi ⟨v2, v3, v4, v6, v7, rfl, J, X⟩
      have i12 : i < 12 := hi
      walk_at "rd"
      refine cut_ite (fun v G' => ∃ most : Int, v = .int most ∧ 0 ≤ most ∧ most ≤ 8 ∧ JarAt (200 * i + 1) G' j ∧ Jx [j] H G') (fun Q' q => ?_) ?_
      · refine ite2 (fun _ => ?_) (fun _ => ?_)
        · walk_at "rd"
          intro p hp
          have J1 := J.lay (o := .lst [.int 8, .int 3]) hp
          walk_at "rd"
          refine pick_go J1 (by omega) (by decide) (by decide) fun u G2 u0 u1 J2 y2 => ?_
          have hp2 := y2.get (upd_same (H := G) (a := p) (o := .lst [.int 8, .int 3])) (nin1 (fresh_ne J.obj.choose_spec hp))
          obtain ⟨m, em, m0, m1⟩ := menu_int [8, 3] 0 8 u0 (by simpa using u1) (by simp)
          refine go_ixL (.inl hp2) em ?_
          exact q _ _ ⟨m, rfl, m0, m1, J2, (X.tr (Jx.new hp)).tr y2⟩
        · walk_at "rd"
          exact q _ _ ⟨0, rfl, by decide, by decide, J.mono (by omega), X⟩
      rintro _ G1 ⟨most, rfl, mo0, mo8, J1, X1⟩
      walk_at "rd"
      refine ⟨j, most, 20, _, rfl, J1, by omega, mo0, mo8, by decide, by decide +kernel, fun p l xs ss rate G2 R fi len one rr J2 y2 pf lf pl pj lj hp hl hT => ?_⟩
      have R : Rad 300 ss rate := R
      have dR : Dq (hid [j] G2) (.ref p) (radD ss rate) := .tup (.inl (by rw [hid_ne (nin1 pj)]; exact hp)) (.cons (.lst (.inl (by rw [hid_ne (nin1 lj)]; exact hl)) (tps_dq J2.lst hT)) (.cons (dq_opt _ rate) .nil))
      have X2 := X1.tr y2
      clear hT hl hp pl pf lf lj
      walk_at "rd"
      refine pick_go J2 (by omega) (by decide) (by decide) fun c G3 c0 c1 J3 y3 => ?_
      walk_at "rd"
      refine ⟨by omega, by omega, ?_⟩
      refine run_lcR (fun D i' G => ∃ ns : List Int, G D = some (.lst (ns.map V.int)) ∧ ns.length = i' ∧ (∀ s ∈ ns, 0 ≤ s ∧ s ≤ 40) ∧ JarAt (200 * i + 1 + 100 + 1 + i') G j ∧ Jx [j] G3 G ∧ G3 D = none ∧ D ≠ j) ?_ ?_ ?_
      · exact fun D hD => ⟨[], upd_same, rfl, (fun _ h => nomatch h), J3.lay hD, Jx.new hD, hD, fresh_ne J3.obj.choose_spec hD⟩
      · rintro D i' G hi' ⟨ns', hD, hlen', hns, JG, YG, hfr, Dj⟩
        have i4 : i' < 4 := by omega
        walk_at "rd"
        refine ⟨rfl, go_yes (iteT ?_)⟩
        walk_at "rd"
        refine pick_go JG (by omega) (by decide) (by decide) fun u G4 u0 u1 J4 y4 => ?_
        refine ⟨ns'.map V.int, y4.get hD (nin1 Dj), by rw [List.length_map]; exact Nat.lt_of_le_of_lt (show ns'.length ≤ 4 by omega) (by decide), ns' ++ [u], by rw [List.map_append]; exact upd_same, by simp [hlen'], fun s hs => ?_, J4.keep (upd_ne Dj.symm), Jx.mut (YG.tr y4) hfr, hfr, Dj⟩
        rcases List.mem_append.mp hs with hs | hs
        · exact hns s hs
        · rw [List.mem_singleton.mp hs]
          omega
      · rintro D G4 hDn ⟨ns', hD, hlen', hns, J4, Y4, hfr, Dj⟩
        have X4 := (X2.tr y3).tr Y4
        have dR := Y4.dq (y3.dq dR)
        have dG : Dq (hid [j] G4) (.ref D) (.list (ns'.map PyData.int)) := .lst (.inl (by rw [hid_ne (nin1 Dj)]; exact hD)) (dq_ints _ _)
        have l4 : 1 ≤ ns'.length ∧ ns'.length ≤ 4 := by omega
        have J4 := J4.mono (m := 200 * i + 110) (by omega)
        clear hD hfr hDn Y4 y3 J3 J2 y2 J1 X1 J X
        walk_at "rd"
        refine pick_go J4 (by omega) (by decide) (by decide) fun z G5 z0 z1 J5 y5 => ?_
        walk_at "rd"
        intro p5 hp5
        have J6 := J5.lay (o := .lst [.int 0, .int 0, .int z]) hp5
        walk_at "rd"
        refine pick_go J6 (by omega) (by decide) (by decide) fun u G7 u0 u1 J7 y7 => ?_
        have hp7 := y7.get (upd_same (H := G5) (a := p5) (o := .lst [.int 0, .int 0, .int z])) (nin1 (fresh_ne J5.obj.choose_spec hp5))
        obtain ⟨b0, eb, b00, b01⟩ := menu_int [0, 0, z] 0 12 u0 (by simpa using u1) (by simp; omega)
        refine go_ixL (.inl hp7) eb ?_
        have Y7 := (y5.tr (Jx.new hp5)).tr y7
        walk_at "rd"
        refine pick_go J7 (by omega) (by decide) (by decide) fun z2 G8 z20 z21 J8 y8 => ?_
        walk_at "rd"
        intro p8 hp8
        have J9 := J8.lay (o := .lst [.int 0, .int 1, .int z2]) hp8
        walk_at "rd"
        refine pick_go J9 (by omega) (by decide) (by decide) fun u2 GA u20 u21 JA yA => ?_
        have hpA := yA.get (upd_same (H := G8) (a := p8) (o := .lst [.int 0, .int 1, .int z2])) (nin1 (fresh_ne J8.obj.choose_spec hp8))
        obtain ⟨m, em, m0, m1⟩ := menu_int [0, 1, z2] 0 12 u20 (by simpa using u21) (by simp; omega)
        refine go_ixL (.inl hpA) em ?_
        have YA := ((Y7.tr y8).tr (Jx.new hp8)).tr yA
        walk_at "rd"
        intro q hq
        have hqj := fresh_ne JA.obj.choose_spec hq
        have YB := YA.tr (Jx.new (o := HO.tup [.int b0, .int (b0 + m)]) hq)
        have JB := JA.lay (o := HO.tup [.int b0, .int (b0 + m)]) hq
        have dB : Dq (hid [j] (upd GA q (.tup [.int b0, .int (b0 + m)]))) (.ref q) (.tuple [.int b0, .int (b0 + m)]) := .tup (.inl (by rw [hid_ne (nin1 hqj)]; exact upd_same)) (.cons (.int _) (.cons (.int _) .nil))
        have dR := YB.dq dR
        have dG := YB.dq dG
        have X5 := X4.tr YB
        revert dB dR dG X5 JB
        generalize upd GA q (.tup [.int b0, .int (b0 + m)]) = GB
        intro JB dB dR dG X5
        clear hpA hp7 YA yA y8 Y7 y7 y5 YB
        walk_at "rd"
        refine ⟨j, .ref p, .ref D, .ref q, ss, rate, ns', b0, b0 + m, _, rfl, JB, by omega, dR, dG, dB, R, fi, one, rr, hns, l4.1, l4.2, b00, by omega, by omega, fun GC JC yC => ?_⟩
        refine ⟨true, rfl, iteF ?_⟩
        walk_at "rd"
        exact ⟨_, _, _, _, _, rfl, JC.mono (by omega), X5.tr yC⟩
    · rintro σ G ⟨v2, v3, v4, v6, v7, rfl, J, X⟩
      walk_at "rd"
      intro p1 hp1
      have x1 := Ex.new (o := HO.tup [.str "dial", .int 0]) hp1
      walk_at "rd"
      intro p2 hp2
      have x2 := Ex.new (o := HO.tup [.str "pass", .int 3, .int 6]) hp2
      walk_at "rd"
      intro p3 hp3
      have x3 := Ex.new (o := HO.tup [.str "mix", .int 4]) hp3
      walk_at "rd"
      intro l hl
      have x4 := Ex.new (o := HO.lst [.ref p1, .ref p2, .ref p3]) hl
      walk_at "rd"
      intro t ht
      have x5 := Ex.new (o := HO.tup [.ref l, .non]) ht
      have dr : Dq _ (.ref t) (radD ssA none) := .tup (.inl upd_same) (.cons (.lst (.inl (x5 _ _ upd_same)) (.cons (.tup (.inl ((x2.trans (x3.trans (x4.trans x5))) _ _ upd_same)) (.cons (.str _) (.cons (.int _) .nil))) (.cons (.tup (.inl ((x3.trans (x4.trans x5)) _ _ upd_same)) (.cons (.str _) (.cons (.int _) (.cons (.int _) .nil)))) (.cons (.tup (.inl ((x4.trans x5) _ _ upd_same)) (.cons (.str _) (.cons (.int _) .nil))) .nil)))) (.cons .non .nil))
      clear x1 x2 x3 x4 x5
      revert dr
      generalize upd _ t (HO.tup [.ref l, .non]) = G5
      intro dr
      walk_at "rd"
      intro q1 hq1
      have y1 := Ex.new (o := HO.tup [.int 0, .int 1]) hq1
      walk_at "rd"
      intro q2 hq2
      have y2 := Ex.new (o := HO.tup [.int 0, .int 4]) hq2
      walk_at "rd"
      intro q3 hq3
      have y3 := Ex.new (o := HO.tup [.int 20, .int (-1)]) hq3
      walk_at "rd"
      intro q4 hq4
      have y4 := Ex.new (o := HO.tup [.int 1, .int 10]) hq4
      walk_at "rd"
      intro lq hlq
      have y5 := Ex.new (o := HO.lst [.ref q1, .ref q2, .ref q3, .ref q4]) hlq
      have dr := dr.ex ((y1.trans y2).trans (y3.trans (y4.trans y5)))
      have f1 := (y2.trans (y3.trans (y4.trans y5))) _ _ upd_same
      have f2 := (y3.trans (y4.trans y5)) _ _ upd_same
      have f3 := (y4.trans y5) _ _ upd_same
      have f4 := y5 _ _ upd_same
      have hlst := upd_same (H := upd (upd (upd (upd G5 q1 (.tup [.int 0, .int 1])) q2 (.tup [.int 0, .int 4])) q3 (.tup [.int 20, .int (-1)])) q4 (.tup [.int 1, .int 10])) (a := lq) (o := HO.lst [.ref q1, .ref q2, .ref q3, .ref q4])
      clear y1 y2 y3 y4 y5
      revert dr f1 f2 f3 f4 hlst
      show _ → _ → _ → _ → _ → _ → ∃ a, V.ref lq = V.ref a ∧ (∃ xs, SqL _ (upd _ lq (HO.lst [.ref q1, .ref q2, .ref q3, .ref q4])) a xs) ∧ lcL _ _ _ _ _ _ _ (upd _ lq (HO.lst [.ref q1, .ref q2, .ref q3, .ref q4])) _
      generalize upd _ lq (HO.lst [.ref q1, .ref q2, .ref q3, .ref q4]) = GB
      intro dr f1 f2 f3 f4 hlst
      have items : ∀ (i : Nat) (v : V), [V.ref q1, .ref q2, .ref q3, .ref q4][i]? = some v → i < 4 ∧ ∃ (q : Addr) (st pc : Int) (o : Option Int), v = .ref q ∧ GB q = some (.tup [.int st, .int pc]) ∧ [some 6, some 2, some 4, none][i]? = some o ∧ IsNext (stopB ssA none [10, 12] 0 0 st pc) 0 o ∧ st.natAbs ≤ 80 ∧ pc ≠ 0 ∧ pc.natAbs ≤ 10 := fun i v h => by
        match i, h with
        | 0, h => cases h; obtain ⟨o, r⟩ := nextA 0 0 1 rfl; exact ⟨by decide, q1, 0, 1, o, rfl, f1, r⟩
        | 1, h => cases h; obtain ⟨o, r⟩ := nextA 1 0 4 rfl; exact ⟨by decide, q2, 0, 4, o, rfl, f2, r⟩
        | 2, h => cases h; obtain ⟨o, r⟩ := nextA 2 20 (-1) rfl; exact ⟨by decide, q3, 20, -1, o, rfl, f3, r⟩
        | 3, h => cases h; obtain ⟨o, r⟩ := nextA 3 1 10 rfl; exact ⟨by decide, q4, 1, 10, o, rfl, f4, r⟩
        | _ + 4, h => cases h
      refine ⟨lq, rfl, ⟨_, .inl (.inl hlst)⟩, ?_⟩
      refine run_lcL [.ref q1, .ref q2, .ref q3, .ref q4] (fun D i G => G D = some (.lst (([some 6, some 2, some 4, none].take i).map optV)) ∧ Ex GB G ∧ GB D = none) ?_ ?_ ?_ ?_
      · exact fun D hD => ⟨upd_same, Ex.new hD, hD⟩
      · rintro D i G _ ⟨_, e, _⟩
        exact .inl (.inl (e _ _ hlst))
      · rintro D i v G hv ⟨hD, e, hfr⟩
        obtain ⟨i4, q, st, pc, o, rfl, hq, ho, hn, st8, pc0, pc9⟩ := items i v hv
        have tk : [some 6, some 2, some 4, none].take (i + 1) = [some 6, some 2, some 4, none].take i ++ [o] := by rw [List.take_succ, ho]; rfl
        refine go_gtup (.inl (.inl (e _ _ hq))) rfl ?_
        refine ⟨_, _, rfl, _, _, rfl, rfl, ?_⟩
        dsimp only
        refine ⟨rfl, go_yes (iteT ?_)⟩
        walk_at "rd"
        intro g hg
        have xg := Ex.new (o := HO.lst [.int 10, .int 12]) hg
        walk_at "rd"
        intro z hz
        have xz := Ex.new (o := HO.tup [.int 0, .int 0]) hz
        walk_at "rd"
        refine go_stop (sigs := [10, 12]) (dr.ex (e.trans (xg.trans xz))) vsA (.lst (.inl (xz _ _ upd_same)) (dq_ints _ [10, 12])) (by decide) (by decide +kernel) (by decide) (by decide) ⟨z, rfl, .inl upd_same⟩ (by decide) (by decide) (by decide +kernel) (Nat.le_trans st8 (by decide +kernel)) pc0 (Nat.lt_of_le_of_lt pc9 (by decide +kernel)) fun u G6 e6 hu => ?_
        obtain rfl := next_uniq hu hn
        have E := (xg.trans xz).trans e6
        refine ⟨_, E _ _ hD, ?_, ?_, Ex.mut (e.trans E) hfr, hfr⟩
        · rw [List.length_map, List.length_take]
          exact Nat.lt_of_le_of_lt (Nat.min_le_left _ _) (Nat.lt_trans i4 (by decide))
        · rw [tk, List.map_append]
          exact upd_same
      · rintro D G6 hDn ⟨hD, e, _⟩
        have hD : G6 D = some (.lst ([some 6, some 2, some 4, none].map optV)) := hD
        walk_at "rd"
        intro l9 hl9
        have x9 := Ex.new (o := HO.lst [.int 6, .int 2, .int 4, .non]) hl9
        refine go_eqT (d := .list ([some 6, some 2, some 4, none].map rateD)) (e := .list [.int 6, .int 2, .int 4, .none]) (.lst (.inl (x9 _ _ hD)) (dq_opts _ _)) (.lst (.inl upd_same) (.cons (.int _) (.cons (.int _) (.cons (.int _) (.cons .non .nil))))) (by decide +kernel) (by decide +kernel) (by decide +kernel) ?_
        exact k _
end
end Kx

set_option Elab.async false
set_option linter.all false
set_option maxRecDepth 100000
set_option maxHeartbeats 2000000
namespace Kx
open PySem PySem.Spec PyProof.Rows L2 HX
open Evl (Ex)

theorem all_mk {P : Program} {w : World} {K : PySem.W.Frag} {h : Heap} {mg : Str → Option Value} {fa f1 f2 f3 f4 f5 f6 f7 f8 f9 f10 f11 f12 f13 f14 f15 f16 f17 f18 f19 f20 f21 f22 f23 f24 f25 f26 f27 f28 f29 f30 f31 f32 f33 f34 f35 f36 f37 f38 f39 f40 f41 f42 f43 f44 f45 f46 : Addr} {od1 an1 od2 an2 od3 an3 od4 an4 od5 an5 od6 an6 od7 an7 od8 an8 od9 an9 od10 an10 od11 an11 od12 an12 od13 an13 od14 an14 od15 an15 od16 an16 od17 an17 od18 an18 od19 an19 od20 an20 od21 an21 od22 an22 od23 an23 od24 an24 od25 an25 od26 an26 od27 an27 od28 an28 od29 an29 od30 an30 od31 an31 od32 an32 od33 an33 od34 an34 od35 an35 od36 an36 od37 an37 od38 an38 od39 an39 od40 an40 od41 an41 od42 an42 od43 an43 od44 an44 od45 an45 od46 an46 : Option Addr} {sl1 sl2 sl3 sl4 sl5 sl6 sl7 sl8 sl9 sl10 sl11 sl12 sl13 sl14 sl15 sl16 sl17 sl18 sl19 sl20 sl21 sl22 sl23 sl24 sl25 sl26 sl27 sl28 sl29 sl30 sl31 sl32 sl33 sl34 sl35 sl36 sl37 sl38 sl39 sl40 sl41 sl42 sl43 sl44 sl45 sl46 : Array (Option Value)} {oc1 kV1 dc1 pm1 cd1 ct1 oc2 kV2 dc2 pm2 cd2 ct2 oc3 kV3 dc3 pm3 cd3 ct3 oc4 kV4 dc4 pm4 cd4 ct4 oc5 kV5 dc5 pm5 cd5 ct5 oc6 kV6 dc6 pm6 cd6 ct6 oc7 kV7 dc7 pm7 cd7 ct7 oc8 kV8 dc8 pm8 cd8 ct8 oc9 kV9 dc9 pm9 cd9 ct9 oc10 kV10 dc10 pm10 cd10 ct10 oc11 kV11 dc11 pm11 cd11 ct11 oc12 kV12 dc12 pm12 cd12 ct12 oc13 kV13 dc13 pm13 cd13 ct13 oc14 kV14 dc14 pm14 cd14 ct14 oc15 kV15 dc15 pm15 cd15 ct15 oc16 kV16 dc16 pm16 cd16 ct16 oc17 kV17 dc17 pm17 cd17 ct17 oc18 kV18 dc18 pm18 cd18 ct18 oc19 kV19 dc19 pm19 cd19 ct19 oc20 kV20 dc20 pm20 cd20 ct20 oc21 kV21 dc21 pm21 cd21 ct21 oc22 kV22 dc22 pm22 cd22 ct22 oc23 kV23 dc23 pm23 cd23 ct23 oc24 kV24 dc24 pm24 cd24 ct24 oc25 kV25 dc25 pm25 cd25 ct25 oc26 kV26 dc26 pm26 cd26 ct26 oc27 kV27 dc27 pm27 cd27 ct27 oc28 kV28 dc28 pm28 cd28 ct28 oc29 kV29 dc29 pm29 cd29 ct29 oc30 kV30 dc30 pm30 cd30 ct30 oc31 kV31 dc31 pm31 cd31 ct31 oc32 kV32 dc32 pm32 cd32 ct32 oc33 kV33 dc33 pm33 cd33 ct33 oc34 kV34 dc34 pm34 cd34 ct34 oc35 kV35 dc35 pm35 cd35 ct35 oc36 kV36 dc36 pm36 cd36 ct36 oc37 kV37 dc37 pm37 cd37 ct37 oc38 kV38 dc38 pm38 cd38 ct38 oc39 kV39 dc39 pm39 cd39 ct39 oc40 kV40 dc40 pm40 cd40 ct40 oc41 kV41 dc41 pm41 cd41 ct41 oc42 kV42 dc42 pm42 cd42 ct42 oc43 kV43 dc43 pm43 cd43 ct43 oc44 kV44 dc44 pm44 cd44 ct44 oc45 kV45 dc45 pm45 cd45 ct45 oc46 kV46 dc46 pm46 cd46 ct46 : Value} {t1 t2 t3 : Tok}
    {C0 C1 C2 C3 C4 C5 : Addr}
    {i0 u0 v0 N0 : Addr} {nm0 qn0 q0 msg0 file0 : Str} {bs0 bm0 sub0 : List Value} {sn0 : List Str} {ab0 : Bool} {col0 : Option Bool} {dd0 eod0 ean0 cld0 dld0 : Option Addr} {m0_0 m0_1 m0_2 m0_3 m0_5 : Option Value} {eoc0 edc0 epm0 ect0 cl0 dl0 : Value} {esl0 csl0 dsl0 : Array (Option Value)} {vs0 : Array Value} {tf0 : Tok} {p1_0 p2_0 a1_0 a2_0 a3_0 a4_0 a5_0 a6_0 q1_0 q2_0 q3_0 q4_0 : Pos}
    {i1 u1 v1 N1 : Addr} {nm1 qn1 q1 msg1 file1 : Str} {bs1 bm1 sub1 : List Value} {sn1 : List Str} {ab1 : Bool} {col1 : Option Bool} {dd1 eod1 ean1 cld1 dld1 : Option Addr} {m1_0 m1_1 m1_2 m1_3 m1_5 : Option Value} {eoc1 edc1 epm1 ect1 cl1 dl1 : Value} {esl1 csl1 dsl1 : Array (Option Value)} {vs1 : Array Value} {tf1 : Tok} {p1_1 p2_1 a1_1 a2_1 a3_1 a4_1 a5_1 a6_1 q1_1 q2_1 q3_1 q4_1 : Pos} (X : K.In h) (G : h.Ns mainGlobals mg) (hfa : mg "law" = some (.ref fa))
    (a1 : PySem.W.nsIn K mainGlobals "_law_stock" = some (some (.ref f1)))
    (l1 : K.lookup f1 = some ⟨oc1, od1, .func (PySem.W.fnOf "_law_stock" "_law_stock" (defArgs s__law_stock) (defBody s__law_stock) (defScope s__law_stock) .none kV1 dc1 pm1 an1 cd1 ct1), sl1⟩)
    (c1 : PySem.W.codeIn K cd1 "_law_stock" = true)
    (k1 : PySem.W.keepIn K (.ref f1) = true)
    (a2 : PySem.W.nsIn K mainGlobals "_law_draw" = some (some (.ref f2)))
    (l2 : K.lookup f2 = some ⟨oc2, od2, .func (PySem.W.fnOf "_law_draw" "_law_draw" (defArgs s__law_draw) (defBody s__law_draw) (defScope s__law_draw) .none kV2 dc2 pm2 an2 cd2 ct2), sl2⟩)
    (c2 : PySem.W.codeIn K cd2 "_law_draw" = true)
    (k2 : PySem.W.keepIn K (.ref f2) = true)
    (a3 : PySem.W.nsIn K mainGlobals "_law_kind" = some (some (.ref f3)))
    (l3 : K.lookup f3 = some ⟨oc3, od3, .func (PySem.W.fnOf "_law_kind" "_law_kind" (defArgs s__law_kind) (defBody s__law_kind) (defScope s__law_kind) .none kV3 dc3 pm3 an3 cd3 ct3), sl3⟩)
    (c3 : PySem.W.codeIn K cd3 "_law_kind" = true)
    (k3 : PySem.W.keepIn K (.ref f3) = true)
    (a4 : PySem.W.nsIn K mainGlobals "is_integer" = some (some (.ref f4)))
    (l4 : K.lookup f4 = some ⟨oc4, od4, .func (PySem.W.fnOf "is_integer" "is_integer" (defArgs s_is_integer) (defBody s_is_integer) (defScope s_is_integer) .none kV4 dc4 pm4 an4 cd4 ct4), sl4⟩)
    (c4 : PySem.W.codeIn K cd4 "is_integer" = true)
    (k4 : PySem.W.keepIn K (.ref f4) = true)
    (a5 : PySem.W.nsIn K mainGlobals "is_natural" = some (some (.ref f5)))
    (l5 : K.lookup f5 = some ⟨oc5, od5, .func (PySem.W.fnOf "is_natural" "is_natural" (defArgs s_is_natural) (defBody s_is_natural) (defScope s_is_natural) .none kV5 dc5 pm5 an5 cd5 ct5), sl5⟩)
    (c5 : PySem.W.codeIn K cd5 "is_natural" = true)
    (k5 : PySem.W.keepIn K (.ref f5) = true)
    (a6 : PySem.W.nsIn K mainGlobals "is_band" = some (some (.ref f6)))
    (l6 : K.lookup f6 = some ⟨oc6, od6, .func (PySem.W.fnOf "is_band" "is_band" (defArgs s_is_band) (defBody s_is_band) (defScope s_is_band) .none kV6 dc6 pm6 an6 cd6 ct6), sl6⟩)
    (c6 : PySem.W.codeIn K cd6 "is_band" = true)
    (k6 : PySem.W.keepIn K (.ref f6) = true)
    (a7 : PySem.W.nsIn K mainGlobals "is_stage" = some (some (.ref f7)))
    (l7 : K.lookup f7 = some ⟨oc7, od7, .func (PySem.W.fnOf "is_stage" "is_stage" (defArgs s_is_stage) (defBody s_is_stage) (defScope s_is_stage) .none kV7 dc7 pm7 an7 cd7 ct7), sl7⟩)
    (c7 : PySem.W.codeIn K cd7 "is_stage" = true)
    (k7 : PySem.W.keepIn K (.ref f7) = true)
    (a8 : PySem.W.nsIn K mainGlobals "is_rate" = some (some (.ref f8)))
    (l8 : K.lookup f8 = some ⟨oc8, od8, .func (PySem.W.fnOf "is_rate" "is_rate" (defArgs s_is_rate) (defBody s_is_rate) (defScope s_is_rate) .none kV8 dc8 pm8 an8 cd8 ct8), sl8⟩)
    (c8 : PySem.W.codeIn K cd8 "is_rate" = true)
    (k8 : PySem.W.keepIn K (.ref f8) = true)
    (a9 : PySem.W.nsIn K mainGlobals "_is_frame" = some (some (.ref f9)))
    (l9 : K.lookup f9 = some ⟨oc9, od9, .func (PySem.W.fnOf "_is_frame" "_is_frame" (defArgs s__is_frame) (defBody s__is_frame) (defScope s__is_frame) .none kV9 dc9 pm9 an9 cd9 ct9), sl9⟩)
    (c9 : PySem.W.codeIn K cd9 "_is_frame" = true)
    (k9 : PySem.W.keepIn K (.ref f9) = true)
    (a10 : PySem.W.nsIn K mainGlobals "mixing_tone" = some (some (.ref f10)))
    (l10 : K.lookup f10 = some ⟨oc10, od10, .func (PySem.W.fnOf "mixing_tone" "mixing_tone" (defArgs s_mixing_tone) (defBody s_mixing_tone) (defScope s_mixing_tone) .none kV10 dc10 pm10 an10 cd10 ct10), sl10⟩)
    (c10 : PySem.W.codeIn K cd10 "mixing_tone" = true)
    (k10 : PySem.W.keepIn K (.ref f10) = true)
    (a11 : PySem.W.nsIn K mainGlobals "behind_stage" = some (some (.ref f11)))
    (l11 : K.lookup f11 = some ⟨oc11, od11, .func (PySem.W.fnOf "behind_stage" "behind_stage" (defArgs s_behind_stage) (defBody s_behind_stage) (defScope s_behind_stage) .none kV11 dc11 pm11 an11 cd11 ct11), sl11⟩)
    (c11 : PySem.W.codeIn K cd11 "behind_stage" = true)
    (k11 : PySem.W.keepIn K (.ref f11) = true)
    (a12 : PySem.W.nsIn K mainGlobals "check_receiver" = some (some (.ref f12)))
    (l12 : K.lookup f12 = some ⟨oc12, od12, .func (PySem.W.fnOf "check_receiver" "check_receiver" (defArgs s_check_receiver) (defBody s_check_receiver) (defScope s_check_receiver) .none kV12 dc12 pm12 an12 cd12 ct12), sl12⟩)
    (c12 : PySem.W.codeIn K cd12 "check_receiver" = true)
    (k12 : PySem.W.keepIn K (.ref f12) = true)
    (a13 : PySem.W.nsIn K mainGlobals "check_dial" = some (some (.ref f13)))
    (l13 : K.lookup f13 = some ⟨oc13, od13, .func (PySem.W.fnOf "check_dial" "check_dial" (defArgs s_check_dial) (defBody s_check_dial) (defScope s_check_dial) .none kV13 dc13 pm13 an13 cd13 ct13), sl13⟩)
    (c13 : PySem.W.codeIn K cd13 "check_dial" = true)
    (k13 : PySem.W.keepIn K (.ref f13) = true)
    (a14 : PySem.W.nsIn K mainGlobals "check_band" = some (some (.ref f14)))
    (l14 : K.lookup f14 = some ⟨oc14, od14, .func (PySem.W.fnOf "check_band" "check_band" (defArgs s_check_band) (defBody s_check_band) (defScope s_check_band) .none kV14 dc14 pm14 an14 cd14 ct14), sl14⟩)
    (c14 : PySem.W.codeIn K cd14 "check_band" = true)
    (k14 : PySem.W.keepIn K (.ref f14) = true)
    (a15 : PySem.W.nsIn K mainGlobals "check_signals" = some (some (.ref f15)))
    (l15 : K.lookup f15 = some ⟨oc15, od15, .func (PySem.W.fnOf "check_signals" "check_signals" (defArgs s_check_signals) (defBody s_check_signals) (defScope s_check_signals) .none kV15 dc15 pm15 an15 cd15 ct15), sl15⟩)
    (c15 : PySem.W.codeIn K cd15 "check_signals" = true)
    (k15 : PySem.W.keepIn K (.ref f15) = true)
    (a16 : PySem.W.nsIn K mainGlobals "check_step" = some (some (.ref f16)))
    (l16 : K.lookup f16 = some ⟨oc16, od16, .func (PySem.W.fnOf "check_step" "check_step" (defArgs s_check_step) (defBody s_check_step) (defScope s_check_step) .none kV16 dc16 pm16 an16 cd16 ct16), sl16⟩)
    (c16 : PySem.W.codeIn K cd16 "check_step" = true)
    (k16 : PySem.W.keepIn K (.ref f16) = true)
    (a17 : PySem.W.nsIn K mainGlobals "all_spans" = some (some (.ref f17)))
    (l17 : K.lookup f17 = some ⟨oc17, od17, .func (PySem.W.fnOf "all_spans" "all_spans" (defArgs s_all_spans) (defBody s_all_spans) (defScope s_all_spans) .none kV17 dc17 pm17 an17 cd17 ct17), sl17⟩)
    (c17 : PySem.W.codeIn K cd17 "all_spans" = true)
    (k17 : PySem.W.keepIn K (.ref f17) = true)
    (a18 : PySem.W.nsIn K mainGlobals "tone_spans" = some (some (.ref f18)))
    (l18 : K.lookup f18 = some ⟨oc18, od18, .func (PySem.W.fnOf "tone_spans" "tone_spans" (defArgs s_tone_spans) (defBody s_tone_spans) (defScope s_tone_spans) .none kV18 dc18 pm18 an18 cd18 ct18), sl18⟩)
    (c18 : PySem.W.codeIn K cd18 "tone_spans" = true)
    (k18 : PySem.W.keepIn K (.ref f18) = true)
    (a19 : PySem.W.nsIn K mainGlobals "spans_of" = some (some (.ref f19)))
    (l19 : K.lookup f19 = some ⟨oc19, od19, .func (PySem.W.fnOf "spans_of" "spans_of" (defArgs s_spans_of) (defBody s_spans_of) (defScope s_spans_of) .none kV19 dc19 pm19 an19 cd19 ct19), sl19⟩)
    (c19 : PySem.W.codeIn K cd19 "spans_of" = true)
    (k19 : PySem.W.keepIn K (.ref f19) = true)
    (a20 : PySem.W.nsIn K mainGlobals "signal_of" = some (some (.ref f20)))
    (l20 : K.lookup f20 = some ⟨oc20, od20, .func (PySem.W.fnOf "signal_of" "signal_of" (defArgs s_signal_of) (defBody s_signal_of) (defScope s_signal_of) .none kV20 dc20 pm20 an20 cd20 ct20), sl20⟩)
    (c20 : PySem.W.codeIn K cd20 "signal_of" = true)
    (k20 : PySem.W.keepIn K (.ref f20) = true)
    (a21 : PySem.W.nsIn K mainGlobals "cut_to_signals" = some (some (.ref f21)))
    (l21 : K.lookup f21 = some ⟨oc21, od21, .func (PySem.W.fnOf "cut_to_signals" "cut_to_signals" (defArgs s_cut_to_signals) (defBody s_cut_to_signals) (defScope s_cut_to_signals) .none kV21 dc21 pm21 an21 cd21 ct21), sl21⟩)
    (c21 : PySem.W.codeIn K cd21 "cut_to_signals" = true)
    (k21 : PySem.W.keepIn K (.ref f21) = true)
    (a22 : PySem.W.nsIn K mainGlobals "cut_to_numbers" = some (some (.ref f22)))
    (l22 : K.lookup f22 = some ⟨oc22, od22, .func (PySem.W.fnOf "cut_to_numbers" "cut_to_numbers" (defArgs s_cut_to_numbers) (defBody s_cut_to_numbers) (defScope s_cut_to_numbers) .none kV22 dc22 pm22 an22 cd22 ct22), sl22⟩)
    (c22 : PySem.W.codeIn K cd22 "cut_to_numbers" = true)
    (k22 : PySem.W.keepIn K (.ref f22) = true)
    (a23 : PySem.W.nsIn K mainGlobals "_behind_mixer" = some (some (.ref f23)))
    (l23 : K.lookup f23 = some ⟨oc23, od23, .func (PySem.W.fnOf "_behind_mixer" "_behind_mixer" (defArgs s__behind_mixer) (defBody s__behind_mixer) (defScope s__behind_mixer) .none kV23 dc23 pm23 an23 cd23 ct23), sl23⟩)
    (c23 : PySem.W.codeIn K cd23 "_behind_mixer" = true)
    (k23 : PySem.W.keepIn K (.ref f23) = true)
    (a24 : PySem.W.nsIn K mainGlobals "_behind_pass" = some (some (.ref f24)))
    (l24 : K.lookup f24 = some ⟨oc24, od24, .func (PySem.W.fnOf "_behind_pass" "_behind_pass" (defArgs s__behind_pass) (defBody s__behind_pass) (defScope s__behind_pass) .none kV24 dc24 pm24 an24 cd24 ct24), sl24⟩)
    (c24 : PySem.W.codeIn K cd24 "_behind_pass" = true)
    (k24 : PySem.W.keepIn K (.ref f24) = true)
    (a25 : PySem.W.nsIn K mainGlobals "stretches_at" = some (some (.ref f25)))
    (l25 : K.lookup f25 = some ⟨oc25, od25, .func (PySem.W.fnOf "stretches_at" "stretches_at" (defArgs s_stretches_at) (defBody s_stretches_at) (defScope s_stretches_at) .none kV25 dc25 pm25 an25 cd25 ct25), sl25⟩)
    (c25 : PySem.W.codeIn K cd25 "stretches_at" = true)
    (k25 : PySem.W.keepIn K (.ref f25) = true)
    (a26 : PySem.W.nsIn K mainGlobals "parted_stretches" = some (some (.ref f26)))
    (l26 : K.lookup f26 = some ⟨oc26, od26, .func (PySem.W.fnOf "parted_stretches" "parted_stretches" (defArgs s_parted_stretches) (defBody s_parted_stretches) (defScope s_parted_stretches) .none kV26 dc26 pm26 an26 cd26 ct26), sl26⟩)
    (c26 : PySem.W.codeIn K cd26 "parted_stretches" = true)
    (k26 : PySem.W.keepIn K (.ref f26) = true)
    (a27 : PySem.W.nsIn K mainGlobals "period_of" = some (some (.ref f27)))
    (l27 : K.lookup f27 = some ⟨oc27, od27, .func (PySem.W.fnOf "period_of" "period_of" (defArgs s_period_of) (defBody s_period_of) (defScope s_period_of) .none kV27 dc27 pm27 an27 cd27 ct27), sl27⟩)
    (c27 : PySem.W.codeIn K cd27 "period_of" = true)
    (k27 : PySem.W.keepIn K (.ref f27) = true)
    (a28 : PySem.W.nsIn K mainGlobals "_spans_along" = some (some (.ref f28)))
    (l28 : K.lookup f28 = some ⟨oc28, od28, .func (PySem.W.fnOf "_spans_along" "_spans_along" (defArgs s__spans_along) (defBody s__spans_along) (defScope s__spans_along) .none kV28 dc28 pm28 an28 cd28 ct28), sl28⟩)
    (c28 : PySem.W.codeIn K cd28 "_spans_along" = true)
    (k28 : PySem.W.keepIn K (.ref f28) = true)
    (a29 : PySem.W.nsIn K mainGlobals "number_pieces" = some (some (.ref f29)))
    (l29 : K.lookup f29 = some ⟨oc29, od29, .func (PySem.W.fnOf "number_pieces" "number_pieces" (defArgs s_number_pieces) (defBody s_number_pieces) (defScope s_number_pieces) .none kV29 dc29 pm29 an29 cd29 ct29), sl29⟩)
    (c29 : PySem.W.codeIn K cd29 "number_pieces" = true)
    (k29 : PySem.W.keepIn K (.ref f29) = true)
    (a30 : PySem.W.nsIn K mainGlobals "heard_pieces" = some (some (.ref f30)))
    (l30 : K.lookup f30 = some ⟨oc30, od30, .func (PySem.W.fnOf "heard_pieces" "heard_pieces" (defArgs s_heard_pieces) (defBody s_heard_pieces) (defScope s_heard_pieces) .none kV30 dc30 pm30 an30 cd30 ct30), sl30⟩)
    (c30 : PySem.W.codeIn K cd30 "heard_pieces" = true)
    (k30 : PySem.W.keepIn K (.ref f30) = true)
    (a31 : PySem.W.nsIn K mainGlobals "band_pieces" = some (some (.ref f31)))
    (l31 : K.lookup f31 = some ⟨oc31, od31, .func (PySem.W.fnOf "band_pieces" "band_pieces" (defArgs s_band_pieces) (defBody s_band_pieces) (defScope s_band_pieces) .none kV31 dc31 pm31 an31 cd31 ct31), sl31⟩)
    (c31 : PySem.W.codeIn K cd31 "band_pieces" = true)
    (k31 : PySem.W.keepIn K (.ref f31) = true)
    (a32 : PySem.W.nsIn K mainGlobals "dial_place" = some (some (.ref f32)))
    (l32 : K.lookup f32 = some ⟨oc32, od32, .func (PySem.W.fnOf "dial_place" "dial_place" (defArgs s_dial_place) (defBody s_dial_place) (defScope s_dial_place) .none kV32 dc32 pm32 an32 cd32 ct32), sl32⟩)
    (c32 : PySem.W.codeIn K cd32 "dial_place" = true)
    (k32 : PySem.W.keepIn K (.ref f32) = true)
    (a33 : PySem.W.nsIn K mainGlobals "behind_stages" = some (some (.ref f33)))
    (l33 : K.lookup f33 = some ⟨oc33, od33, .func (PySem.W.fnOf "behind_stages" "behind_stages" (defArgs s_behind_stages) (defBody s_behind_stages) (defScope s_behind_stages) .none kV33 dc33 pm33 an33 cd33 ct33), sl33⟩)
    (c33 : PySem.W.codeIn K cd33 "behind_stages" = true)
    (k33 : PySem.W.keepIn K (.ref f33) = true)
    (a34 : PySem.W.nsIn K mainGlobals "dial_line" = some (some (.ref f34)))
    (l34 : K.lookup f34 = some ⟨oc34, od34, .func (PySem.W.fnOf "dial_line" "dial_line" (defArgs s_dial_line) (defBody s_dial_line) (defScope s_dial_line) .none kV34 dc34 pm34 an34 cd34 ct34), sl34⟩)
    (c34 : PySem.W.codeIn K cd34 "dial_line" = true)
    (k34 : PySem.W.keepIn K (.ref f34) = true)
    (a35 : PySem.W.nsIn K mainGlobals "check_dial_stage" = some (some (.ref f35)))
    (l35 : K.lookup f35 = some ⟨oc35, od35, .func (PySem.W.fnOf "check_dial_stage" "check_dial_stage" (defArgs s_check_dial_stage) (defBody s_check_dial_stage) (defScope s_check_dial_stage) .none kV35 dc35 pm35 an35 cd35 ct35), sl35⟩)
    (c35 : PySem.W.codeIn K cd35 "check_dial_stage" = true)
    (k35 : PySem.W.keepIn K (.ref f35) = true)
    (a36 : PySem.W.nsIn K mainGlobals "floor_sum" = some (some (.ref f36)))
    (l36 : K.lookup f36 = some ⟨oc36, od36, .func (PySem.W.fnOf "floor_sum" "floor_sum" (defArgs s_floor_sum) (defBody s_floor_sum) (defScope s_floor_sum) .none kV36 dc36 pm36 an36 cd36 ct36), sl36⟩)
    (c36 : PySem.W.codeIn K cd36 "floor_sum" = true)
    (k36 : PySem.W.keepIn K (.ref f36) = true)
    (a37 : PySem.W.nsIn K mainGlobals "_count_between" = some (some (.ref f37)))
    (l37 : K.lookup f37 = some ⟨oc37, od37, .func (PySem.W.fnOf "_count_between" "_count_between" (defArgs s__count_between) (defBody s__count_between) (defScope s__count_between) .none kV37 dc37 pm37 an37 cd37 ct37), sl37⟩)
    (c37 : PySem.W.codeIn K cd37 "_count_between" = true)
    (k37 : PySem.W.keepIn K (.ref f37) = true)
    (a38 : PySem.W.nsIn K mainGlobals "_first_between" = some (some (.ref f38)))
    (l38 : K.lookup f38 = some ⟨oc38, od38, .func (PySem.W.fnOf "_first_between" "_first_between" (defArgs s__first_between) (defBody s__first_between) (defScope s__first_between) .none kV38 dc38 pm38 an38 cd38 ct38), sl38⟩)
    (c38 : PySem.W.codeIn K cd38 "_first_between" = true)
    (k38 : PySem.W.keepIn K (.ref f38) = true)
    (a39 : PySem.W.nsIn K mainGlobals "_indexes_along" = some (some (.ref f39)))
    (l39 : K.lookup f39 = some ⟨oc39, od39, .func (PySem.W.fnOf "_indexes_along" "_indexes_along" (defArgs s__indexes_along) (defBody s__indexes_along) (defScope s__indexes_along) .none kV39 dc39 pm39 an39 cd39 ct39), sl39⟩)
    (c39 : PySem.W.codeIn K cd39 "_indexes_along" = true)
    (k39 : PySem.W.keepIn K (.ref f39) = true)
    (a40 : PySem.W.nsIn K mainGlobals "first_stride" = some (some (.ref f40)))
    (l40 : K.lookup f40 = some ⟨oc40, od40, .func (PySem.W.fnOf "first_stride" "first_stride" (defArgs s_first_stride) (defBody s_first_stride) (defScope s_first_stride) .none kV40 dc40 pm40 an40 cd40 ct40), sl40⟩)
    (c40 : PySem.W.codeIn K cd40 "first_stride" = true)
    (k40 : PySem.W.keepIn K (.ref f40) = true)
    (a41 : PySem.W.nsIn K mainGlobals "_check_scan" = some (some (.ref f41)))
    (l41 : K.lookup f41 = some ⟨oc41, od41, .func (PySem.W.fnOf "_check_scan" "_check_scan" (defArgs s__check_scan) (defBody s__check_scan) (defScope s__check_scan) .none kV41 dc41 pm41 an41 cd41 ct41), sl41⟩)
    (c41 : PySem.W.codeIn K cd41 "_check_scan" = true)
    (k41 : PySem.W.keepIn K (.ref f41) = true)
    (a42 : PySem.W.nsIn K mainGlobals "_heard_along" = some (some (.ref f42)))
    (l42 : K.lookup f42 = some ⟨oc42, od42, .func (PySem.W.fnOf "_heard_along" "_heard_along" (defArgs s__heard_along) (defBody s__heard_along) (defScope s__heard_along) .none kV42 dc42 pm42 an42 cd42 ct42), sl42⟩)
    (c42 : PySem.W.codeIn K cd42 "_heard_along" = true)
    (k42 : PySem.W.keepIn K (.ref f42) = true)
    (a43 : PySem.W.nsIn K mainGlobals "first_stop" = some (some (.ref f43)))
    (l43 : K.lookup f43 = some ⟨oc43, od43, .func (PySem.W.fnOf "first_stop" "first_stop" (defArgs s_first_stop) (defBody s_first_stop) (defScope s_first_stop) .none kV43 dc43 pm43 an43 cd43 ct43), sl43⟩)
    (c43 : PySem.W.codeIn K cd43 "first_stop" = true)
    (k43 : PySem.W.keepIn K (.ref f43) = true)
    (a44 : PySem.W.nsIn K mainGlobals "_law_tone" = some (some (.ref f44)))
    (l44 : K.lookup f44 = some ⟨oc44, od44, .func (PySem.W.fnOf "_law_tone" "_law_tone" (defArgs s__law_tone) (defBody s__law_tone) (defScope s__law_tone) .none kV44 dc44 pm44 an44 cd44 ct44), sl44⟩)
    (c44 : PySem.W.codeIn K cd44 "_law_tone" = true)
    (k44 : PySem.W.keepIn K (.ref f44) = true)
    (a45 : PySem.W.nsIn K mainGlobals "_law_right" = some (some (.ref f45)))
    (l45 : K.lookup f45 = some ⟨oc45, od45, .func (PySem.W.fnOf "_law_right" "_law_right" (defArgs s__law_right) (defBody s__law_right) (defScope s__law_right) .none kV45 dc45 pm45 an45 cd45 ct45), sl45⟩)
    (c45 : PySem.W.codeIn K cd45 "_law_right" = true)
    (k45 : PySem.W.keepIn K (.ref f45) = true)
    (a46 : PySem.W.nsIn K mainGlobals "law" = some (some (.ref f46)))
    (l46 : K.lookup f46 = some ⟨oc46, od46, .func (PySem.W.fnOf "law" "law" (defArgs s_law) (defBody s_law) (defScope s_law) .none kV46 dc46 pm46 an46 cd46 ct46), sl46⟩)
    (c46 : PySem.W.codeIn K cd46 "law" = true)
    (k46 : PySem.W.keepIn K (.ref f46) = true)
    (z1 : PySem.W.nsIn K mainGlobals "abs" = some none)
    (z2 : PySem.W.nsIn K mainGlobals "int" = some none)
    (z3 : PySem.W.nsIn K mainGlobals "range" = some none)
    (z4 : PySem.W.nsIn K mainGlobals "isinstance" = some none)
    (z5 : PySem.W.nsIn K mainGlobals "bool" = some none)
    (z6 : PySem.W.nsIn K mainGlobals "tuple" = some none)
    (z7 : PySem.W.nsIn K mainGlobals "len" = some none)
    (z8 : PySem.W.nsIn K mainGlobals "str" = some none)
    (z9 : PySem.W.nsIn K mainGlobals "list" = some none)
    (z10 : PySem.W.nsIn K mainGlobals "enumerate" = some none)
    (z11 : PySem.W.nsIn K mainGlobals "max" = some none)
    (z12 : PySem.W.nsIn K mainGlobals "min" = some none)
    (z13 : PySem.W.nsIn K mainGlobals "sorted" = some none)
    (z14 : PySem.W.nsIn K mainGlobals "divmod" = some none)
    (z15 : PySem.W.nsIn K mainGlobals "sum" = some none)
    (z16 : PySem.W.nsIn K mainGlobals "repr" = some none)
    (z17 : PySem.W.nsIn K mainGlobals "super" = some none)
    (y1 : PySem.W.nsIn K mainGlobals "LEAST_RATE" = some (some (.int 2 t1)))
    (y2 : PySem.W.nsIn K mainGlobals "MOST_STAGES" = some (some (.int 8 t2)))
    (y3 : PySem.W.nsIn K mainGlobals "MOST_SIGNALS" = some (some (.int 4 t3)))
    (g0 : PySem.W.nsIn K mainGlobals "InvalidReceiver" = some (some (.ref C0)))
    (w0 : PySem.W.keepIn K (.ref C0) = true)
    (eb0 : PySem.W.subIn K (.ref C0) (.type "BaseException") = some true)
    (ty0 : PySem.W.typeIn K (.ref C0) = some (.type "type"))
    (ga0 : PySem.W.findIn K (.ref C0) "__getattribute__" = some (some (.builtin "BaseException.__getattribute__")))
    (gg0 : PySem.W.findIn K (.ref C0) "__getattr__" = some none)
    (hd0 : PySem.W.hasDictIn K C0 = true)
    (xL0 : K.lookup C0 = some (excClassObj nm0 qn0 C0 N0 bs0 bm0 true sn0 sub0 ab0 col0 dd0 m0_0 m0_1 m0_2 m0_3 m0_5 "ValueError.__new__"))
    (rv0 : PySem.HandSPX.refsVE bm0 = true)
    (sa0 : PySem.W.findIn K (.ref C0) "__setattr__" = some (some (.builtin "object.__setattr__")))
    (no0 : PySem.W.findIn K (.ref C0) "index" = some none)
    (iC0 : PySem.W.findIn K (.ref C0) "__init__" = some (some (.ref i0)))
    (tC0 : PySem.W.typeIn K (.ref i0) = some (.type "function"))
    (ve0 : PySem.W.subIn K (.ref C0) (.type "ValueError") = some true)
    (me0 : PySem.W.mroIn K C0 (.ref C0) = some true)
    (te0 : PySem.W.exmOne K (.ref C0) (.ref C0) = some true)
    (su0 : PySem.W.ks_superIn K C0 C0 "__init__" = some (some (.builtin "ValueError.__init__")))
    (li0 : K.lookup i0 = some ⟨eoc0, eod0, .func (PySem.W.fnX "__init__" q0 (SupX.iA "index" p1_0 p2_0) (SupX.iB "index" msg0 a1_0 a2_0 a3_0 a4_0 a5_0 a6_0 q1_0 q2_0 q3_0 q4_0) (SupX.iS "index") [("__class__", u0)] .none .none edc0 epm0 ean0 (.ref v0) ect0), esl0⟩)
    (ci0 : PySem.W.codeIn K (.ref v0) q0 = true)
    (lu0 : K.lookup u0 = some ⟨cl0, cld0, .cell (some (.ref C0)), csl0⟩)
    (lv0 : K.lookup v0 = some ⟨dl0, dld0, .fields vs0, dsl0⟩)
    (vv0 : vs0[2]? = some (.str file0 tf0))
    (fi0 : ((P.main.file : Str) == file0) = true)
    (hl0 : (a3_0.endLine == a5_0.line) = true)
    (g1 : PySem.W.nsIn K mainGlobals "InvalidSignals" = some (some (.ref C1)))
    (w1 : PySem.W.keepIn K (.ref C1) = true)
    (eb1 : PySem.W.subIn K (.ref C1) (.type "BaseException") = some true)
    (ty1 : PySem.W.typeIn K (.ref C1) = some (.type "type"))
    (ga1 : PySem.W.findIn K (.ref C1) "__getattribute__" = some (some (.builtin "BaseException.__getattribute__")))
    (gg1 : PySem.W.findIn K (.ref C1) "__getattr__" = some none)
    (hd1 : PySem.W.hasDictIn K C1 = true)
    (xL1 : K.lookup C1 = some (excClassObj nm1 qn1 C1 N1 bs1 bm1 true sn1 sub1 ab1 col1 dd1 m1_0 m1_1 m1_2 m1_3 m1_5 "ValueError.__new__"))
    (rv1 : PySem.HandSPX.refsVE bm1 = true)
    (sa1 : PySem.W.findIn K (.ref C1) "__setattr__" = some (some (.builtin "object.__setattr__")))
    (no1 : PySem.W.findIn K (.ref C1) "index" = some none)
    (iC1 : PySem.W.findIn K (.ref C1) "__init__" = some (some (.ref i1)))
    (tC1 : PySem.W.typeIn K (.ref i1) = some (.type "function"))
    (ve1 : PySem.W.subIn K (.ref C1) (.type "ValueError") = some true)
    (me1 : PySem.W.mroIn K C1 (.ref C1) = some true)
    (te1 : PySem.W.exmOne K (.ref C1) (.ref C1) = some true)
    (su1 : PySem.W.ks_superIn K C1 C1 "__init__" = some (some (.builtin "ValueError.__init__")))
    (li1 : K.lookup i1 = some ⟨eoc1, eod1, .func (PySem.W.fnX "__init__" q1 (SupX.iA "index" p1_1 p2_1) (SupX.iB "index" msg1 a1_1 a2_1 a3_1 a4_1 a5_1 a6_1 q1_1 q2_1 q3_1 q4_1) (SupX.iS "index") [("__class__", u1)] .none .none edc1 epm1 ean1 (.ref v1) ect1), esl1⟩)
    (ci1 : PySem.W.codeIn K (.ref v1) q1 = true)
    (lu1 : K.lookup u1 = some ⟨cl1, cld1, .cell (some (.ref C1)), csl1⟩)
    (lv1 : K.lookup v1 = some ⟨dl1, dld1, .fields vs1, dsl1⟩)
    (vv1 : vs1[2]? = some (.str file1 tf1))
    (fi1 : ((P.main.file : Str) == file1) = true)
    (hl1 : (a3_1.endLine == a5_1.line) = true)
    (g2 : PySem.W.nsIn K mainGlobals "InvalidBand" = some (some (.ref C2)))
    (w2 : PySem.W.keepIn K (.ref C2) = true)
    (eb2 : PySem.W.subIn K (.ref C2) (.type "BaseException") = some true)
    (ty2 : PySem.W.typeIn K (.ref C2) = some (.type "type"))
    (x2 : PySem.W.excIn K C2 [.type "ValueError", .type "Exception", .type "BaseException", .type "object"] "ValueError.__new__" = true)
    (g3 : PySem.W.nsIn K mainGlobals "InvalidDial" = some (some (.ref C3)))
    (w3 : PySem.W.keepIn K (.ref C3) = true)
    (eb3 : PySem.W.subIn K (.ref C3) (.type "BaseException") = some true)
    (ty3 : PySem.W.typeIn K (.ref C3) = some (.type "type"))
    (x3 : PySem.W.excIn K C3 [.type "ValueError", .type "Exception", .type "BaseException", .type "object"] "ValueError.__new__" = true)
    (g4 : PySem.W.nsIn K mainGlobals "InvalidNumber" = some (some (.ref C4)))
    (w4 : PySem.W.keepIn K (.ref C4) = true)
    (eb4 : PySem.W.subIn K (.ref C4) (.type "BaseException") = some true)
    (ty4 : PySem.W.typeIn K (.ref C4) = some (.type "type"))
    (x4 : PySem.W.excIn K C4 [.type "ValueError", .type "Exception", .type "BaseException", .type "object"] "ValueError.__new__" = true)
    (g5 : PySem.W.nsIn K mainGlobals "Impossible" = some (some (.ref C5)))
    (w5 : PySem.W.keepIn K (.ref C5) = true)
    (eb5 : PySem.W.subIn K (.ref C5) (.type "BaseException") = some true)
    (ty5 : PySem.W.typeIn K (.ref C5) = some (.type "type"))
    (x5 : PySem.W.excIn K C5 [.type "ValueError", .type "Exception", .type "BaseException", .type "object"] "ValueError.__new__" = true)
    (op : PySem.W.nsIn K cStatics "thirdparty.any" = some none)
    (tp : (P.main.scope.names.lookup ("super" : Str)).isSome = false) :
    ∃ fd : FuncData, (∀ (s : Shared) (v : Value), BindsTo s fd ⟨[v], []⟩ [("script", v)]) ∧ ∀ base : Heap, K.In base → base.Ns mainGlobals mg → FnG P w K mg base CX0 10 fa fd ["script"] (spLaw K) := by
  have e := hfa.symm.trans (PySem.W.mg_of X G a46)
  cases e
  have m_abs := PySem.W.mg_none_of X G z1
  have m_int := PySem.W.mg_none_of X G z2
  have m_range := PySem.W.mg_none_of X G z3
  have m_isinstance := PySem.W.mg_none_of X G z4
  have m_bool := PySem.W.mg_none_of X G z5
  have m_tuple := PySem.W.mg_none_of X G z6
  have m_len := PySem.W.mg_none_of X G z7
  have m_str := PySem.W.mg_none_of X G z8
  have m_list := PySem.W.mg_none_of X G z9
  have m_enumerate := PySem.W.mg_none_of X G z10
  have m_max := PySem.W.mg_none_of X G z11
  have m_min := PySem.W.mg_none_of X G z12
  have m_sorted := PySem.W.mg_none_of X G z13
  have m_divmod := PySem.W.mg_none_of X G z14
  have m_sum := PySem.W.mg_none_of X G z15
  have m_repr := PySem.W.mg_none_of X G z16
  have m_super := PySem.W.mg_none_of X G z17
  have g_LEAST_RATE := PySem.W.mg_of X G y1
  have g_MOST_STAGES := PySem.W.mg_of X G y2
  have g_MOST_SIGNALS := PySem.W.mg_of X G y3
  have g_InvalidReceiver := PySem.W.mg_of X G g0
  have T_InvalidReceiver : SupX.ErrTxt P K mg "InvalidReceiver" "index" C0 i0 := { okf := .inl rfl, gC := PySem.W.mg_of X G g0, cls := ⟨_, _, _, _, _, _, _, _, _, _, _, _, _, _, _, xL0, rv0⟩, sa := sa0, ga := ga0, gg := gg0, noN := no0, iC := iC0, tC := tC0, kC := w0, exC := eb0, veC := ve0, meC := me0, tyC := ty0, hdC := hd0, te := te0, sup := su0, op := op, gs := m_super, top := tp, fn := ⟨_, _, _, _, _, _, .none, _, _, _, _, _, _, _, _, _, _, _, _, _, _, _, _, _, _, _, _, _, _, _, _, _, _, li0, ci0, lu0, lv0, vv0, fi0, hl0⟩ }
  have g_InvalidSignals := PySem.W.mg_of X G g1
  have T_InvalidSignals : SupX.ErrTxt P K mg "InvalidSignals" "index" C1 i1 := { okf := .inl rfl, gC := PySem.W.mg_of X G g1, cls := ⟨_, _, _, _, _, _, _, _, _, _, _, _, _, _, _, xL1, rv1⟩, sa := sa1, ga := ga1, gg := gg1, noN := no1, iC := iC1, tC := tC1, kC := w1, exC := eb1, veC := ve1, meC := me1, tyC := ty1, hdC := hd1, te := te1, sup := su1, op := op, gs := m_super, top := tp, fn := ⟨_, _, _, _, _, _, .none, _, _, _, _, _, _, _, _, _, _, _, _, _, _, _, _, _, _, _, _, _, _, _, _, _, _, li1, ci1, lu1, lv1, vv1, fi1, hl1⟩ }
  have g_InvalidBand := PySem.W.mg_of X G g2
  have T_InvalidBand : Err K mg "InvalidBand" C2 := ⟨PySem.W.mg_of X G g2, x2, w2, eb2, ty2⟩
  have g_InvalidDial := PySem.W.mg_of X G g3
  have T_InvalidDial : Err K mg "InvalidDial" C3 := ⟨PySem.W.mg_of X G g3, x3, w3, eb3, ty3⟩
  have g_InvalidNumber := PySem.W.mg_of X G g4
  have T_InvalidNumber : Err K mg "InvalidNumber" C4 := ⟨PySem.W.mg_of X G g4, x4, w4, eb4, ty4⟩
  have g_Impossible := PySem.W.mg_of X G g5
  have T_Impossible : Err K mg "Impossible" C5 := ⟨PySem.W.mg_of X G g5, x5, w5, eb5, ty5⟩
  refine ⟨PySem.W.fnOf "law" "law" (defArgs s_law) (defBody s_law) (defScope s_law) .none kV46 dc46 pm46 an46 cd46 ct46, fun s v => .of_eq rfl, fun base _ _ => ?_⟩
  have F1 := fun_mk (st := s__law_stock) l1 c1 k1
  have h__law_stock : Has P w K mg base 1 "_law_stock" (spStk K) := ⟨f1, _, ["script"], ok_stock (P := P) (w := w) (mg := mg) (base := base) F1 (m_abs := m_abs) (m_int := m_int), PySem.W.mg_of X G a1, k1, F1.binds (ps := ["script"]) fun _ _ _ _ _ _ us hl => match us, hl with | [_], _ => rfl⟩
  have F2 := fun_mk (st := s__law_draw) l2 c2 k2
  have h__law_draw : Has P w K mg base 1 "_law_draw" spPick := ⟨f2, _, ["stock", "wide"], ok_tap (P := P) (w := w) (mg := mg) (base := base) F2 (m_int := m_int), PySem.W.mg_of X G a2, k2, F2.binds (ps := ["stock", "wide"]) fun _ _ _ _ _ _ us hl => match us, hl with | [_, _], _ => rfl⟩
  have F3 := fun_mk (st := s__law_kind) l3 c3 k3
  have h__law_kind : Has P w K mg base 2 "_law_kind" spKind := ⟨f3, _, ["stock", "most", "wide"], ok_kind (P := P) (w := w) (mg := mg) (base := base) F3 (m_range := m_range) (h__law_draw := h__law_draw), PySem.W.mg_of X G a3, k3, F3.binds (ps := ["stock", "most", "wide"]) fun _ _ _ _ _ _ us hl => match us, hl with | [_, _, _], _ => rfl⟩
  have F4 := fun_mk (st := s_is_integer) l4 c4 k4
  have h_is_integer : Has P w K mg base 1 "is_integer" (spLook isInt) := ⟨f4, _, ["value"], ok_is_integer (P := P) (w := w) (mg := mg) (base := base) F4 (m_isinstance := m_isinstance) (m_int := m_int) (m_bool := m_bool), PySem.W.mg_of X G a4, k4, F4.binds (ps := ["value"]) fun _ _ _ _ _ _ us hl => match us, hl with | [_], _ => rfl⟩
  have F5 := fun_mk (st := s_is_natural) l5 c5 k5
  have h_is_natural : Has P w K mg base 2 "is_natural" (spLook isNat) := ⟨f5, _, ["value"], ok_is_natural (P := P) (w := w) (mg := mg) (base := base) F5 (h_is_integer := h_is_integer), PySem.W.mg_of X G a5, k5, F5.binds (ps := ["value"]) fun _ _ _ _ _ _ us hl => match us, hl with | [_], _ => rfl⟩
  have F6 := fun_mk (st := s_is_band) l6 c6 k6
  have h_is_band : Has P w K mg base 3 "is_band" (spLook isBand) := ⟨f6, _, ["value"], ok_is_band (P := P) (w := w) (mg := mg) (base := base) F6 (m_isinstance := m_isinstance) (m_tuple := m_tuple) (m_len := m_len) (h_is_natural := h_is_natural), PySem.W.mg_of X G a6, k6, F6.binds (ps := ["value"]) fun _ _ _ _ _ _ us hl => match us, hl with | [_], _ => rfl⟩
  have F7 := fun_mk (st := s_is_stage) l7 c7 k7
  have h_is_stage : Has P w K mg base 4 "is_stage" (spLook isStage) := ⟨f7, _, ["value"], ok_is_stage (P := P) (w := w) (mg := mg) (base := base) F7 (m_isinstance := m_isinstance) (m_tuple := m_tuple) (m_str := m_str) (m_len := m_len) (h_is_integer := h_is_integer) (h_is_natural := h_is_natural) (h_is_band := h_is_band), PySem.W.mg_of X G a7, k7, F7.binds (ps := ["value"]) fun _ _ _ _ _ _ us hl => match us, hl with | [_], _ => rfl⟩
  have F8 := fun_mk (st := s_is_rate) l8 c8 k8
  have h_is_rate : Has P w K mg base 2 "is_rate" (spLook isRate) := ⟨f8, _, ["value"], ok_is_rate (P := P) (w := w) (mg := mg) (base := base) F8 (g_LEAST_RATE := g_LEAST_RATE) (h_is_integer := h_is_integer), PySem.W.mg_of X G a8, k8, F8.binds (ps := ["value"]) fun _ _ _ _ _ _ us hl => match us, hl with | [_], _ => rfl⟩
  have F9 := fun_mk (st := s__is_frame) l9 c9 k9
  have h__is_frame : Has P w K mg base 1 "_is_frame" (spLook isFrame) := ⟨f9, _, ["value"], ok_is_frame (P := P) (w := w) (mg := mg) (base := base) F9 (m_isinstance := m_isinstance) (m_tuple := m_tuple) (m_list := m_list) (m_len := m_len) (g_MOST_STAGES := g_MOST_STAGES), PySem.W.mg_of X G a9, k9, F9.binds (ps := ["value"]) fun _ _ _ _ _ _ us hl => match us, hl with | [_], _ => rfl⟩
  have F10 := fun_mk (st := s_mixing_tone) l10 c10 k10
  have h_mixing_tone : Has P w K mg base 1 "mixing_tone" spMixing := ⟨f10, _, ["stage", "dial"], ok_mixing_tone (P := P) (w := w) (mg := mg) (base := base) F10 , PySem.W.mg_of X G a10, k10, F10.binds (ps := ["stage", "dial"]) fun _ _ _ _ _ _ us hl => match us, hl with | [_, _], _ => rfl⟩
  have F11 := fun_mk (st := s_behind_stage) l11 c11 k11
  have h_behind_stage : Has P w K mg base 2 "behind_stage" spBehind := ⟨f11, _, ["stage", "dial", "number"], ok_behind_stage (P := P) (w := w) (mg := mg) (base := base) F11 (m_abs := m_abs) (h_mixing_tone := h_mixing_tone), PySem.W.mg_of X G a11, k11, F11.binds (ps := ["stage", "dial", "number"]) fun _ _ _ _ _ _ us hl => match us, hl with | [_, _, _], _ => rfl⟩
  have F12 := fun_mk (st := s_check_receiver) l12 c12 k12
  have h_check_receiver : HasX P w K mg base 5 "check_receiver" (spRecvE C0) := ⟨f12, _, ["receiver"], ok_check_receiver (P := P) (w := w) (mg := mg) (base := base) F12 (T_InvalidReceiver := T_InvalidReceiver) (m_enumerate := m_enumerate) (m_len := m_len) (h__is_frame := h__is_frame) (h_is_stage := h_is_stage) (h_is_rate := h_is_rate), PySem.W.mg_of X G a12, k12, F12.binds (ps := ["receiver"]) fun _ _ _ _ _ _ us hl => match us, hl with | [_], _ => rfl⟩
  have F13 := fun_mk (st := s_check_dial) l13 c13 k13
  have h_check_dial : HasX P w K mg base 2 "check_dial" (spCheckE isInt C3) := ⟨f13, _, ["dial"], ok_check_dialE (P := P) (w := w) (mg := mg) (base := base) F13 (T_InvalidDial := T_InvalidDial) (h_is_integer := h_is_integer), PySem.W.mg_of X G a13, k13, F13.binds (ps := ["dial"]) fun _ _ _ _ _ _ us hl => match us, hl with | [_], _ => rfl⟩
  have F14 := fun_mk (st := s_check_band) l14 c14 k14
  have h_check_band : HasX P w K mg base 4 "check_band" (spCheckE isBand C2) := ⟨f14, _, ["band"], ok_check_bandE (P := P) (w := w) (mg := mg) (base := base) F14 (T_InvalidBand := T_InvalidBand) (h_is_band := h_is_band), PySem.W.mg_of X G a14, k14, F14.binds (ps := ["band"]) fun _ _ _ _ _ _ us hl => match us, hl with | [_], _ => rfl⟩
  have F15 := fun_mk (st := s_check_signals) l15 c15 k15
  have h_check_signals : HasX P w K mg base 5 "check_signals" (spSigsE C1) := ⟨f15, _, ["signals"], ok_check_signals (P := P) (w := w) (mg := mg) (base := base) F15 (T_InvalidSignals := T_InvalidSignals) (m_isinstance := m_isinstance) (m_list := m_list) (m_enumerate := m_enumerate) (m_len := m_len) (g_MOST_SIGNALS := g_MOST_SIGNALS) (h_is_natural := h_is_natural), PySem.W.mg_of X G a15, k15, F15.binds (ps := ["signals"]) fun _ _ _ _ _ _ us hl => match us, hl with | [_], _ => rfl⟩
  have F16 := fun_mk (st := s_check_step) l16 c16 k16
  have h_check_step : HasX P w K mg base 2 "check_step" (spCheckE isStep C4) := ⟨f16, _, ["step"], ok_check_step (P := P) (w := w) (mg := mg) (base := base) F16 (T_InvalidNumber := T_InvalidNumber) (h_is_integer := h_is_integer), PySem.W.mg_of X G a16, k16, F16.binds (ps := ["step"]) fun _ _ _ _ _ _ us hl => match us, hl with | [_], _ => rfl⟩
  have F17 := fun_mk (st := s_all_spans) l17 c17 k17
  have h_all_spans : Has P w K mg base 1 "all_spans" spAll := ⟨f17, _, ["period"], ok_all_spans (P := P) (w := w) (mg := mg) (base := base) F17 , PySem.W.mg_of X G a17, k17, F17.binds (ps := ["period"]) fun _ _ _ _ _ _ us hl => match us, hl with | [_], _ => rfl⟩
  have F18 := fun_mk (st := s_tone_spans) l18 c18 k18
  have h_tone_spans : Has P w K mg base 1 "tone_spans" spBand := ⟨f18, _, ["band", "rate"], ok_tone_spans (P := P) (w := w) (mg := mg) (base := base) F18 (m_max := m_max) (m_min := m_min), PySem.W.mg_of X G a18, k18, F18.binds (ps := ["band", "rate"]) fun _ _ _ _ _ _ us hl => match us, hl with | [_, _], _ => rfl⟩
  have F19 := fun_mk (st := s_spans_of) l19 c19 k19
  have h_spans_of : Has P w K mg base 1 "spans_of" spSO := ⟨f19, _, ["stretches", "period"], ok_spans_of (P := P) (w := w) (mg := mg) (base := base) F19 (m_sorted := m_sorted), PySem.W.mg_of X G a19, k19, F19.binds (ps := ["stretches", "period"]) fun _ _ _ _ _ _ us hl => match us, hl with | [_, _], _ => rfl⟩
  have F20 := fun_mk (st := s_signal_of) l20 c20 k20
  have h_signal_of : Has P w K mg base 1 "signal_of" spSig := ⟨f20, _, ["stretch", "number"], ok_signal_of (P := P) (w := w) (mg := mg) (base := base) F20 , PySem.W.mg_of X G a20, k20, F20.binds (ps := ["stretch", "number"]) fun _ _ _ _ _ _ us hl => match us, hl with | [_, _], _ => rfl⟩
  have F21 := fun_mk (st := s_cut_to_signals) l21 c21 k21
  have h_cut_to_signals : Has P w K mg base 1 "cut_to_signals" spCutS := ⟨f21, _, ["stretch", "low", "high"], ok_cutS (P := P) (w := w) (mg := mg) (base := base) F21 (m_max := m_max), PySem.W.mg_of X G a21, k21, F21.binds (ps := ["stretch", "low", "high"]) fun _ _ _ _ _ _ us hl => match us, hl with | [_, _, _], _ => rfl⟩
  have F22 := fun_mk (st := s_cut_to_numbers) l22 c22 k22
  have h_cut_to_numbers : Has P w K mg base 2 "cut_to_numbers" spCutN := ⟨f22, _, ["stretch", "low", "high"], ok_cutN (P := P) (w := w) (mg := mg) (base := base) F22 (m_max := m_max) (m_min := m_min) (h_signal_of := h_signal_of) (h_cut_to_signals := h_cut_to_signals), PySem.W.mg_of X G a22, k22, F22.binds (ps := ["stretch", "low", "high"]) fun _ _ _ _ _ _ us hl => match us, hl with | [_, _, _], _ => rfl⟩
  have F23 := fun_mk (st := s__behind_mixer) l23 c23 k23
  have h__behind_mixer : Has P w K mg base 2 "_behind_mixer" spMixL := ⟨f23, _, ["stretches", "center"], ok_mixer (P := P) (w := w) (mg := mg) (base := base) F23 (m_abs := m_abs) (h_signal_of := h_signal_of), PySem.W.mg_of X G a23, k23, F23.binds (ps := ["stretches", "center"]) fun _ _ _ _ _ _ us hl => match us, hl with | [_, _], _ => rfl⟩
  have F24 := fun_mk (st := s__behind_pass) l24 c24 k24
  have h__behind_pass : Has P w K mg base 3 "_behind_pass" spPassL := ⟨f24, _, ["stretches", "low", "high"], ok_pass (P := P) (w := w) (mg := mg) (base := base) F24 (h_cut_to_numbers := h_cut_to_numbers), PySem.W.mg_of X G a24, k24, F24.binds (ps := ["stretches", "low", "high"]) fun _ _ _ _ _ _ us hl => match us, hl with | [_, _, _], _ => rfl⟩
  have F25 := fun_mk (st := s_stretches_at) l25 c25 k25
  have h_stretches_at : Has P w K mg base 4 "stretches_at" spStr := ⟨f25, _, ["stages", "dial"], ok_stretches (P := P) (w := w) (mg := mg) (base := base) F25 (h_mixing_tone := h_mixing_tone) (h__behind_mixer := h__behind_mixer) (h__behind_pass := h__behind_pass), PySem.W.mg_of X G a25, k25, F25.binds (ps := ["stages", "dial"]) fun _ _ _ _ _ _ us hl => match us, hl with | [_, _], _ => rfl⟩
  have F26 := fun_mk (st := s_parted_stretches) l26 c26 k26
  have h_parted_stretches : Has P w K mg base 5 "parted_stretches" spPart := ⟨f26, _, ["stages", "dial"], ok_parted (P := P) (w := w) (mg := mg) (base := base) F26 (m_enumerate := m_enumerate) (m_len := m_len) (h_stretches_at := h_stretches_at), PySem.W.mg_of X G a26, k26, F26.binds (ps := ["stages", "dial"]) fun _ _ _ _ _ _ us hl => match us, hl with | [_, _], _ => rfl⟩
  have F27 := fun_mk (st := s_period_of) l27 c27 k27
  have h_period_of : Has P w K mg base 1 "period_of" spPer := ⟨f27, _, ["rate"], ok_period_of (P := P) (w := w) (mg := mg) (base := base) F27 , PySem.W.mg_of X G a27, k27, F27.binds (ps := ["rate"]) fun _ _ _ _ _ _ us hl => match us, hl with | [_], _ => rfl⟩
  have F28 := fun_mk (st := s__spans_along) l28 c28 k28
  have h__spans_along : Has P w K mg base 2 "_spans_along" spAlong := ⟨f28, _, ["stretch", "rate", "spans"], ok_spans_along (P := P) (w := w) (mg := mg) (base := base) F28 (m_max := m_max) (m_min := m_min) (h_signal_of := h_signal_of) (h_spans_of := h_spans_of), PySem.W.mg_of X G a28, k28, F28.binds (ps := ["stretch", "rate", "spans"]) fun _ _ _ _ _ _ us hl => match us, hl with | [_, _, _], _ => rfl⟩
  have F29 := fun_mk (st := s_number_pieces) l29 c29 k29
  have h_number_pieces : Has P w K mg base 3 "number_pieces" spNumP := ⟨f29, _, ["stretches", "rate", "spans"], ok_number_pieces (P := P) (w := w) (mg := mg) (base := base) F29 (h__spans_along := h__spans_along), PySem.W.mg_of X G a29, k29, F29.binds (ps := ["stretches", "rate", "spans"]) fun _ _ _ _ _ _ us hl => match us, hl with | [_, _, _], _ => rfl⟩
  have F30 := fun_mk (st := s_heard_pieces) l30 c30 k30
  have h_heard_pieces : Has P w K mg base 2 "heard_pieces" spHeardP := ⟨f30, _, ["stretches", "rate"], ok_heard_pieces (P := P) (w := w) (mg := mg) (base := base) F30 (h_period_of := h_period_of) (h_all_spans := h_all_spans), PySem.W.mg_of X G a30, k30, F30.binds (ps := ["stretches", "rate"]) fun _ _ _ _ _ _ us hl => match us, hl with | [_, _], _ => rfl⟩
  have F31 := fun_mk (st := s_band_pieces) l31 c31 k31
  have h_band_pieces : Has P w K mg base 4 "band_pieces" spBandP := ⟨f31, _, ["stretches", "rate", "band"], ok_band_pieces (P := P) (w := w) (mg := mg) (base := base) F31 (h_number_pieces := h_number_pieces) (h_tone_spans := h_tone_spans) (h_cut_to_numbers := h_cut_to_numbers) (h_heard_pieces := h_heard_pieces), PySem.W.mg_of X G a31, k31, F31.binds (ps := ["stretches", "rate", "band"]) fun _ _ _ _ _ _ us hl => match us, hl with | [_, _, _], _ => rfl⟩
  have F32 := fun_mk (st := s_dial_place) l32 c32 k32
  have h_dial_place : Has P w K mg base 1 "dial_place" spDP := ⟨f32, _, ["stages"], ok_dial_place (P := P) (w := w) (mg := mg) (base := base) F32 (m_enumerate := m_enumerate), PySem.W.mg_of X G a32, k32, F32.binds (ps := ["stages"]) fun _ _ _ _ _ _ us hl => match us, hl with | [_], _ => rfl⟩
  have F33 := fun_mk (st := s_behind_stages) l33 c33 k33
  have h_behind_stages : Has P w K mg base 3 "behind_stages" spBS := ⟨f33, _, ["stages", "dial", "number"], ok_behind_stages (P := P) (w := w) (mg := mg) (base := base) F33 (h_behind_stage := h_behind_stage), PySem.W.mg_of X G a33, k33, F33.binds (ps := ["stages", "dial", "number"]) fun _ _ _ _ _ _ us hl => match us, hl with | [_, _, _], _ => rfl⟩
  have F34 := fun_mk (st := s_dial_line) l34 c34 k34
  have h_dial_line : Has P w K mg base 6 "dial_line" spDL := ⟨f34, _, ["receiver", "signal", "dial", "way"], ok_dial_line (P := P) (w := w) (mg := mg) (base := base) F34 (h_dial_place := h_dial_place) (h_behind_stages := h_behind_stages) (h_parted_stretches := h_parted_stretches), PySem.W.mg_of X G a34, k34, F34.binds (ps := ["receiver", "signal", "dial", "way"]) fun _ _ _ _ _ _ us hl => match us, hl with | [_, _, _, _], _ => rfl⟩
  have F35 := fun_mk (st := s_check_dial_stage) l35 c35 k35
  have h_check_dial_stage : HasX P w K mg base 2 "check_dial_stage" (spCDS C5) := ⟨f35, _, ["receiver"], ok_check_dial_stage (P := P) (w := w) (mg := mg) (base := base) F35 (T_Impossible := T_Impossible) (h_dial_place := h_dial_place), PySem.W.mg_of X G a35, k35, F35.binds (ps := ["receiver"]) fun _ _ _ _ _ _ us hl => match us, hl with | [_], _ => rfl⟩
  have F36 := fun_mk (st := s_floor_sum) l36 c36 k36
  have h_floor_sum : Has P w K mg base 1 "floor_sum" spFS := ⟨f36, _, ["many", "factor", "shift", "period"], ok_floor_sum (P := P) (w := w) (mg := mg) (base := base) F36 (m_divmod := m_divmod), PySem.W.mg_of X G a36, k36, F36.binds (ps := ["many", "factor", "shift", "period"]) fun _ _ _ _ _ _ us hl => match us, hl with | [_, _, _, _], _ => rfl⟩
  have F37 := fun_mk (st := s__count_between) l37 c37 k37
  have h__count_between : Has P w K mg base 2 "_count_between" spCBt := ⟨f37, _, ["piece", "step", "low", "high"], ok_count_between (P := P) (w := w) (mg := mg) (base := base) F37 (m_sum := m_sum) (h_floor_sum := h_floor_sum), PySem.W.mg_of X G a37, k37, F37.binds (ps := ["piece", "step", "low", "high"]) fun _ _ _ _ _ _ us hl => match us, hl with | [_, _, _, _], _ => rfl⟩
  have F38 := fun_mk (st := s__first_between) l38 c38 k38
  have h__first_between : Has P w K mg base 3 "_first_between" spFBt := ⟨f38, _, ["piece", "step", "low", "high"], ok_first_between (P := P) (w := w) (mg := mg) (base := base) F38 (h__count_between := h__count_between), PySem.W.mg_of X G a38, k38, F38.binds (ps := ["piece", "step", "low", "high"]) fun _ _ _ _ _ _ us hl => match us, hl with | [_, _, _, _], _ => rfl⟩
  have F39 := fun_mk (st := s__indexes_along) l39 c39 k39
  have h__indexes_along : Has P w K mg base 1 "_indexes_along" spIA := ⟨f39, _, ["piece", "step", "many"], ok_indexes_along (P := P) (w := w) (mg := mg) (base := base) F39 (m_min := m_min), PySem.W.mg_of X G a39, k39, F39.binds (ps := ["piece", "step", "many"]) fun _ _ _ _ _ _ us hl => match us, hl with | [_, _, _], _ => rfl⟩
  have F40 := fun_mk (st := s_first_stride) l40 c40 k40
  have h_first_stride : Has P w K mg base 4 "first_stride" spStride := ⟨f40, _, ["pieces", "step", "many"], ok_first_stride (P := P) (w := w) (mg := mg) (base := base) F40 (h__indexes_along := h__indexes_along) (h__count_between := h__count_between) (h__first_between := h__first_between), PySem.W.mg_of X G a40, k40, F40.binds (ps := ["pieces", "step", "many"]) fun _ _ _ _ _ _ us hl => match us, hl with | [_, _, _], _ => rfl⟩
  have F41 := fun_mk (st := s__check_scan) l41 c41 k41
  have h__check_scan : HasX P w K mg base 6 "_check_scan" (spScan C0 C1 C2 C3) := ⟨f41, _, ["receiver", "signals", "band", "dial"], ok_check_scan (P := P) (w := w) (mg := mg) (base := base) F41 (h_check_receiver := h_check_receiver) (h_check_signals := h_check_signals) (h_check_band := h_check_band) (h_check_dial := h_check_dial), PySem.W.mg_of X G a41, k41, F41.binds (ps := ["receiver", "signals", "band", "dial"]) fun _ _ _ _ _ _ us hl => match us, hl with | [_, _, _, _], _ => rfl⟩
  have F42 := fun_mk (st := s__heard_along) l42 c42 k42
  have h__heard_along : Has P w K mg base 7 "_heard_along" spHA := ⟨f42, _, ["receiver", "signal", "band", "dial", "step"], ok_heard_along (P := P) (w := w) (mg := mg) (base := base) F42 (h_band_pieces := h_band_pieces) (h_dial_line := h_dial_line), PySem.W.mg_of X G a42, k42, F42.binds (ps := ["receiver", "signal", "band", "dial", "step"]) fun _ _ _ _ _ _ us hl => match us, hl with | [_, _, _, _, _], _ => rfl⟩
  have F43 := fun_mk (st := s_first_stop) l43 c43 k43
  have h_first_stop : HasX P w K mg base 8 "first_stop" (spStop C0 C1 C2 C3 C4 C5) := ⟨f43, _, ["receiver", "signals", "band", "dial", "step"], ok_first_stop (P := P) (w := w) (mg := mg) (base := base) F43 (m_abs := m_abs) (h__check_scan := h__check_scan) (h_check_step := h_check_step) (h_check_dial_stage := h_check_dial_stage) (h__heard_along := h__heard_along) (h_first_stride := h_first_stride), PySem.W.mg_of X G a43, k43, F43.binds (ps := ["receiver", "signals", "band", "dial", "step"]) fun _ _ _ _ _ _ us hl => match us, hl with | [_, _, _, _, _], _ => rfl⟩
  have h_first_stop_kw : HasKX P w K mg base 8 "first_stop" ["step", "dial", "band", "signals", "receiver"] rev5 rev5 (spStop C0 C1 C2 C3 C4 C5) := ⟨f43, _, ["receiver", "signals", "band", "dial", "step"], ok_first_stop (P := P) (w := w) (mg := mg) (base := base) F43 (m_abs := m_abs) (h__check_scan := h__check_scan) (h_check_step := h_check_step) (h_check_dial_stage := h_check_dial_stage) (h__heard_along := h__heard_along) (h_first_stride := h_first_stride), PySem.W.mg_of X G a43, k43, ⟨fun s us ws _ q1 q2 => match us, ws, q1, q2 with | [], [_, _, _, _, _], _, _ => .of_eq rfl, fun _ r2 => vals_rev5 r2⟩⟩
  have F44 := fun_mk (st := s__law_tone) l44 c44 k44
  have h__law_tone : Has P w K mg base 1 "_law_tone" spLTone := ⟨f44, _, ["kind", "where", "number"], ok_law_tone (P := P) (w := w) (mg := mg) (base := base) F44 (m_abs := m_abs) (m_min := m_min) (m_int := m_int), PySem.W.mg_of X G a44, k44, F44.binds (ps := ["kind", "where", "number"]) fun _ _ _ _ _ _ us hl => match us, hl with | [_, _, _], _ => rfl⟩
  have F45 := fun_mk (st := s__law_right) l45 c45 k45
  have h__law_right : HasG P w K mg base 9 "_law_right" spRight := ⟨f45, _, ["stock", "kind", "numbers", "band_here"], ok_law_right (P := P) (w := w) (mg := mg) (base := base) F45 (m_range := m_range) (m_repr := m_repr) (h__law_draw := h__law_draw) (h__law_tone := h__law_tone) (h_first_stop_kw := h_first_stop_kw), PySem.W.mg_of X G a45, k45, F45.binds (ps := ["stock", "kind", "numbers", "band_here"]) fun _ _ _ _ _ _ us hl => match us, hl with | [_, _, _, _], _ => rfl⟩
  have F46 := fun_mk (st := s_law) l46 c46 k46
  exact ok_law (P := P) (w := w) (mg := mg) (base := base) F46 (m_range := m_range) (h__law_stock := h__law_stock) (h__law_draw := h__law_draw) (h__law_kind := h__law_kind) (h__law_right := h__law_right) (h_first_stop := h_first_stop)
theorem walk {l : PySem.W.OpenLaw} {q : Program} {loose : List Str} {XP : (Str → Option Value) → Heap → Prop} {YP : World → Heap → Prop} {d : DefRec} {K : Params → PySem.W.Frag} (hn : l.most = some 63) (hdf : d.params.defaults = [])
    (hY : ∀ (w : World) (h : Heap), YP w h → (K w.params).In h)
    (F : ∀ (w : World) (mg : Str → Option Value) (fa : Addr) (h : Heap), (K w.params).In h → h.Ns mainGlobals mg → mg d.name = some (.ref fa) →
      ∃ fd : FuncData, (∀ (s : Shared) (u : Value), BindsTo s fd ⟨[u], []⟩ [("script", u)]) ∧ ∀ base : Heap, (K w.params).In base → base.Ns mainGlobals mg → FnG l.prog w (K w.params) mg base CX0 10 fa fd ["script"] (spLaw (K w.params))) :
    PySem.W.WalkO q loose XP YP l.row.toRowW d [] (fun f vs => PySem.call f vs) :=
  walk_G (n := 63) (k := 10) (x := "script") (sp := fun K => spLaw K) hn (by decide) hdf ⟨rfl, by decide, by decide⟩ hY F (fun _ _ a ns hl _ hS => ⟨a, ns, rfl, Nat.le_trans hl (by decide), hS, fun _ => rfl⟩)
end Kx

open PySem PySem.W PyProof.Rows
set_option maxRecDepth 100000 in
set_option maxHeartbeats 0 in
theorem PySem.Challenge.cw_imagetones_k30_stops_step_by_step_holds : PySem.Challenge.rw_imagetones_k30_stops_step_by_step.Holds := by
  w_on; o_law; k_head; (case hw => w_witness2)
  k_fill
  refine Kx.walk (l := PySem.Challenge.rw_imagetones_k30_stops_step_by_step) rfl rfl (fun w h Y => PySem.W.kIn_of Y) ?F
  case F =>
    intro w mg fa h KX G hmg
    refine' Kx.all_mk KX G hmg ?hXa1 ?hXl1 ?hXc1 ?hXk1 ?hXa2 ?hXl2 ?hXc2 ?hXk2 ?hXa3 ?hXl3 ?hXc3 ?hXk3 ?hXa4 ?hXl4 ?hXc4 ?hXk4 ?hXa5 ?hXl5 ?hXc5 ?hXk5 ?hXa6 ?hXl6 ?hXc6 ?hXk6 ?hXa7 ?hXl7 ?hXc7 ?hXk7 ?hXa8 ?hXl8 ?hXc8 ?hXk8 ?hXa9 ?hXl9 ?hXc9 ?hXk9 ?hXa10 ?hXl10 ?hXc10 ?hXk10 ?hXa11 ?hXl11 ?hXc11 ?hXk11 ?hXa12 ?hXl12 ?hXc12 ?hXk12 ?hXa13 ?hXl13 ?hXc13 ?hXk13 ?hXa14 ?hXl14 ?hXc14 ?hXk14 ?hXa15 ?hXl15 ?hXc15 ?hXk15 ?hXa16 ?hXl16 ?hXc16 ?hXk16 ?hXa17 ?hXl17 ?hXc17 ?hXk17 ?hXa18 ?hXl18 ?hXc18 ?hXk18 ?hXa19 ?hXl19 ?hXc19 ?hXk19 ?hXa20 ?hXl20 ?hXc20 ?hXk20 ?hXa21 ?hXl21 ?hXc21 ?hXk21 ?hXa22 ?hXl22 ?hXc22 ?hXk22 ?hXa23 ?hXl23 ?hXc23 ?hXk23 ?hXa24 ?hXl24 ?hXc24 ?hXk24 ?hXa25 ?hXl25 ?hXc25 ?hXk25 ?hXa26 ?hXl26 ?hXc26 ?hXk26 ?hXa27 ?hXl27 ?hXc27 ?hXk27 ?hXa28 ?hXl28 ?hXc28 ?hXk28 ?hXa29 ?hXl29 ?hXc29 ?hXk29 ?hXa30 ?hXl30 ?hXc30 ?hXk30 ?hXa31 ?hXl31 ?hXc31 ?hXk31 ?hXa32 ?hXl32 ?hXc32 ?hXk32 ?hXa33 ?hXl33 ?hXc33 ?hXk33 ?hXa34 ?hXl34 ?hXc34 ?hXk34 ?hXa35 ?hXl35 ?hXc35 ?hXk35 ?hXa36 ?hXl36 ?hXc36 ?hXk36 ?hXa37 ?hXl37 ?hXc37 ?hXk37 ?hXa38 ?hXl38 ?hXc38 ?hXk38 ?hXa39 ?hXl39 ?hXc39 ?hXk39 ?hXa40 ?hXl40 ?hXc40 ?hXk40 ?hXa41 ?hXl41 ?hXc41 ?hXk41 ?hXa42 ?hXl42 ?hXc42 ?hXk42 ?hXa43 ?hXl43 ?hXc43 ?hXk43 ?hXa44 ?hXl44 ?hXc44 ?hXk44 ?hXa45 ?hXl45 ?hXc45 ?hXk45 ?hXa46 ?hXl46 ?hXc46 ?hXk46 ?hXz1 ?hXz2 ?hXz3 ?hXz4 ?hXz5 ?hXz6 ?hXz7 ?hXz8 ?hXz9 ?hXz10 ?hXz11 ?hXz12 ?hXz13 ?hXz14 ?hXz15 ?hXz16 ?hXz17 ?hXy1 ?hXy2 ?hXy3 ?hXg0 ?hXw0 ?hXeb0 ?hXty0 ?hXga0 ?hXgg0 ?hXhd0 ?hXxL0 ?hXrv0 ?hXsa0 ?hXno0 ?hXiC0 ?hXtC0 ?hXve0 ?hXme0 ?hXte0 ?hXsu0 ?hXli0 ?hXci0 ?hXlu0 ?hXlv0 ?hXvv0 ?hXfi0 ?hXhl0 ?hXg1 ?hXw1 ?hXeb1 ?hXty1 ?hXga1 ?hXgg1 ?hXhd1 ?hXxL1 ?hXrv1 ?hXsa1 ?hXno1 ?hXiC1 ?hXtC1 ?hXve1 ?hXme1 ?hXte1 ?hXsu1 ?hXli1 ?hXci1 ?hXlu1 ?hXlv1 ?hXvv1 ?hXfi1 ?hXhl1 ?hXg2 ?hXw2 ?hXeb2 ?hXty2 ?hXx2 ?hXg3 ?hXw3 ?hXeb3 ?hXty3 ?hXx3 ?hXg4 ?hXw4 ?hXeb4 ?hXty4 ?hXx4 ?hXg5 ?hXw5 ?hXeb5 ?hXty5 ?hXx5 ?hXop ?hXtp
    (case hXa1 => k_is)
    (case hXl1 => k_is)
    (case hXc1 => k_is)
    (case hXk1 => k_is)
    (case hXa2 => k_is)
    (case hXl2 => k_is)
    (case hXc2 => k_is)
    (case hXk2 => k_is)
    (case hXa3 => k_is)
    (case hXl3 => k_is)
    (case hXc3 => k_is)
    (case hXk3 => k_is)
    (case hXa4 => k_is)
    (case hXl4 => k_is)
    (case hXc4 => k_is)
    (case hXk4 => k_is)
    (case hXa5 => k_is)
    (case hXl5 => k_is)
    (case hXc5 => k_is)
    (case hXk5 => k_is)
    (case hXa6 => k_is)
    (case hXl6 => k_is)
    (case hXc6 => k_is)
    (case hXk6 => k_is)
    (case hXa7 => k_is)
    (case hXl7 => k_is)
    (case hXc7 => k_is)
    (case hXk7 => k_is)
    (case hXa8 => k_is)
    (case hXl8 => k_is)
    (case hXc8 => k_is)
    (case hXk8 => k_is)
    (case hXa9 => k_is)
    (case hXl9 => k_is)
    (case hXc9 => k_is)
    (case hXk9 => k_is)
    (case hXa10 => k_is)
    (case hXl10 => k_is)
    (case hXc10 => k_is)
    (case hXk10 => k_is)
    (case hXa11 => k_is)
    (case hXl11 => k_is)
    (case hXc11 => k_is)
    (case hXk11 => k_is)
    (case hXa12 => k_is)
    (case hXl12 => k_is)
    (case hXc12 => k_is)
    (case hXk12 => k_is)
    (case hXa13 => k_is)
    (case hXl13 => k_is)
    (case hXc13 => k_is)
    (case hXk13 => k_is)
    (case hXa14 => k_is)
    (case hXl14 => k_is)
    (case hXc14 => k_is)
    (case hXk14 => k_is)
    (case hXa15 => k_is)
    (case hXl15 => k_is)
    (case hXc15 => k_is)
    (case hXk15 => k_is)
    (case hXa16 => k_is)
    (case hXl16 => k_is)
    (case hXc16 => k_is)
    (case hXk16 => k_is)
    (case hXa17 => k_is)
    (case hXl17 => k_is)
    (case hXc17 => k_is)
    (case hXk17 => k_is)
    (case hXa18 => k_is)
    (case hXl18 => k_is)
    (case hXc18 => k_is)
    (case hXk18 => k_is)
    (case hXa19 => k_is)
    (case hXl19 => k_is)
    (case hXc19 => k_is)
    (case hXk19 => k_is)
    (case hXa20 => k_is)
    (case hXl20 => k_is)
    (case hXc20 => k_is)
    (case hXk20 => k_is)
    (case hXa21 => k_is)
    (case hXl21 => k_is)
    (case hXc21 => k_is)
    (case hXk21 => k_is)
    (case hXa22 => k_is)
    (case hXl22 => k_is)
    (case hXc22 => k_is)
    (case hXk22 => k_is)
    (case hXa23 => k_is)
    (case hXl23 => k_is)
    (case hXc23 => k_is)
    (case hXk23 => k_is)
    (case hXa24 => k_is)
    (case hXl24 => k_is)
    (case hXc24 => k_is)
    (case hXk24 => k_is)
    (case hXa25 => k_is)
    (case hXl25 => k_is)
    (case hXc25 => k_is)
    (case hXk25 => k_is)
    (case hXa26 => k_is)
    (case hXl26 => k_is)
    (case hXc26 => k_is)
    (case hXk26 => k_is)
    (case hXa27 => k_is)
    (case hXl27 => k_is)
    (case hXc27 => k_is)
    (case hXk27 => k_is)
    (case hXa28 => k_is)
    (case hXl28 => k_is)
    (case hXc28 => k_is)
    (case hXk28 => k_is)
    (case hXa29 => k_is)
    (case hXl29 => k_is)
    (case hXc29 => k_is)
    (case hXk29 => k_is)
    (case hXa30 => k_is)
    (case hXl30 => k_is)
    (case hXc30 => k_is)
    (case hXk30 => k_is)
    (case hXa31 => k_is)
    (case hXl31 => k_is)
    (case hXc31 => k_is)
    (case hXk31 => k_is)
    (case hXa32 => k_is)
    (case hXl32 => k_is)
    (case hXc32 => k_is)
    (case hXk32 => k_is)
    (case hXa33 => k_is)
    (case hXl33 => k_is)
    (case hXc33 => k_is)
    (case hXk33 => k_is)
    (case hXa34 => k_is)
    (case hXl34 => k_is)
    (case hXc34 => k_is)
    (case hXk34 => k_is)
    (case hXa35 => k_is)
    (case hXl35 => k_is)
    (case hXc35 => k_is)
    (case hXk35 => k_is)
    (case hXa36 => k_is)
    (case hXl36 => k_is)
    (case hXc36 => k_is)
    (case hXk36 => k_is)
    (case hXa37 => k_is)
    (case hXl37 => k_is)
    (case hXc37 => k_is)
    (case hXk37 => k_is)
    (case hXa38 => k_is)
    (case hXl38 => k_is)
    (case hXc38 => k_is)
    (case hXk38 => k_is)
    (case hXa39 => k_is)
    (case hXl39 => k_is)
    (case hXc39 => k_is)
    (case hXk39 => k_is)
    (case hXa40 => k_is)
    (case hXl40 => k_is)
    (case hXc40 => k_is)
    (case hXk40 => k_is)
    (case hXa41 => k_is)
    (case hXl41 => k_is)
    (case hXc41 => k_is)
    (case hXk41 => k_is)
    (case hXa42 => k_is)
    (case hXl42 => k_is)
    (case hXc42 => k_is)
    (case hXk42 => k_is)
    (case hXa43 => k_is)
    (case hXl43 => k_is)
    (case hXc43 => k_is)
    (case hXk43 => k_is)
    (case hXa44 => k_is)
    (case hXl44 => k_is)
    (case hXc44 => k_is)
    (case hXk44 => k_is)
    (case hXa45 => k_is)
    (case hXl45 => k_is)
    (case hXc45 => k_is)
    (case hXk45 => k_is)
    (case hXa46 => k_is)
    (case hXl46 => k_is)
    (case hXc46 => k_is)
    (case hXk46 => k_is)
    (case hXz1 => k_is)
    (case hXz2 => k_is)
    (case hXz3 => k_is)
    (case hXz4 => k_is)
    (case hXz5 => k_is)
    (case hXz6 => k_is)
    (case hXz7 => k_is)
    (case hXz8 => k_is)
    (case hXz9 => k_is)
    (case hXz10 => k_is)
    (case hXz11 => k_is)
    (case hXz12 => k_is)
    (case hXz13 => k_is)
    (case hXz14 => k_is)
    (case hXz15 => k_is)
    (case hXz16 => k_is)
    (case hXz17 => k_is)
    (case hXy1 => k_is)
    (case hXy2 => k_is)
    (case hXy3 => k_is)
    (case hXg0 => k_is)
    (case hXw0 => k_is)
    (case hXeb0 => k_is)
    (case hXty0 => k_is)
    (case hXga0 => k_is)
    (case hXgg0 => k_is)
    (case hXhd0 => k_is)
    (case hXxL0 => k_is)
    (case hXrv0 => first | rfl | decide +kernel)
    (case hXsa0 => k_is)
    (case hXno0 => k_is)
    (case hXiC0 => k_is)
    (case hXtC0 => k_is)
    (case hXve0 => k_is)
    (case hXme0 => k_is)
    (case hXte0 => kernel_rfl)
    (case hXsu0 => kernel_rfl)
    (case hXli0 => k_is)
    (case hXci0 => k_is)
    (case hXlu0 => k_is)
    (case hXlv0 => k_is)
    (case hXvv0 => rfl)
    (case hXfi0 => first | rfl | decide +kernel)
    (case hXhl0 => rfl)
    (case hXg1 => k_is)
    (case hXw1 => k_is)
    (case hXeb1 => k_is)
    (case hXty1 => k_is)
    (case hXga1 => k_is)
    (case hXgg1 => k_is)
    (case hXhd1 => k_is)
    (case hXxL1 => k_is)
    (case hXrv1 => first | rfl | decide +kernel)
    (case hXsa1 => k_is)
    (case hXno1 => k_is)
    (case hXiC1 => k_is)
    (case hXtC1 => k_is)
    (case hXve1 => k_is)
    (case hXme1 => k_is)
    (case hXte1 => kernel_rfl)
    (case hXsu1 => kernel_rfl)
    (case hXli1 => k_is)
    (case hXci1 => k_is)
    (case hXlu1 => k_is)
    (case hXlv1 => k_is)
    (case hXvv1 => rfl)
    (case hXfi1 => first | rfl | decide +kernel)
    (case hXhl1 => rfl)
    (case hXg2 => k_is)
    (case hXw2 => k_is)
    (case hXeb2 => k_is)
    (case hXty2 => k_is)
    (case hXx2 => first | k_exc | kernel_rfl)
    (case hXg3 => k_is)
    (case hXw3 => k_is)
    (case hXeb3 => k_is)
    (case hXty3 => k_is)
    (case hXx3 => first | k_exc | kernel_rfl)
    (case hXg4 => k_is)
    (case hXw4 => k_is)
    (case hXeb4 => k_is)
    (case hXty4 => k_is)
    (case hXx4 => first | k_exc | kernel_rfl)
    (case hXg5 => k_is)
    (case hXw5 => k_is)
    (case hXeb5 => k_is)
    (case hXty5 => k_is)
    (case hXx5 => first | k_exc | kernel_rfl)
    (case hXop => k_is)
    (case hXtp => first | rfl | decide +kernel)
