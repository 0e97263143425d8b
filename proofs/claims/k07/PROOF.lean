import PyProof.Rows.All
import Wide.All
import OpenK.AllK
import Wide.FinOn
import Lean
import PyProof.EqAt
import PyProof.EqKinds
import PyProof.TupleCall
import KE.KDictList
import KE.KRevIter
import KE.KTurns
import PyProof.Rows.SetFrom
import PyProof.Rows.SortStr
import PyProof.FactsAll.set
import PyProof.Draws
import PyProof.EnumMake
import PyProof.AttrMissSeq
import KE.KDictOf
import PyProof.Walks
import KE.KSortTup
import KE.KItemsList
import KE.KDictSum
import PyProof.Rows.SortRev
import KE.KDictLaws
import PyProof.DictTruth
import PyProof.MinMaxWalk
import PyProof.WalkInts
import PyProof.ExcAttrAll.ValueError
import KE.KIsAll
import PyProof.DictRoadsH
import PyProof.ToksMono
import PyProof.StrCalls6
import PyProof.StrOps
import PyProof.Rows.StrFit
import PySem.Challenge.RW_doneroom_k07_texts_that_are_none
set_option compiler.extract_closed false
set_option compiler.reuse false
set_option genSizeOf false
section
variable{G:Prop}
theorem xa{p q:Prop}(h:p∧q)(k:p→q→G):G:=k h.1 h.2
theorem xaa{p q r:Prop}(h:p∧q∧r)(k:p→q→r→G):G:=k h.1 h.2.1 h.2.2
theorem xaaa{p q r s:Prop}(h:p∧q∧r∧s)(k:p→q→r→s→G):G:=k h.1 h.2.1 h.2.2.1 h.2.2.2
theorem xaaaa{p q r s t:Prop}(h:p∧q∧r∧s∧t)(k:p→q→r→s→t→G):G:=k h.1 h.2.1 h.2.2.1 h.2.2.2.1 h.2.2.2.2
theorem xaaaaa{p q r s t m:Prop}(h:p∧q∧r∧s∧t∧m)(k:p→q→r→s→t→m→G):G:=k h.1 h.2.1 h.2.2.1 h.2.2.2.1 h.2.2.2.2.1 h.2.2.2.2.2
theorem xaaea{p q:Prop}{r s:A→Prop}(h:p∧q∧∃x,r x∧s x)(k:p→q→∀x,r x→s x→G):G:=h.2.2.elim fun x h0=>k h.1 h.2.1 x h0.1 h0.2
theorem xaea{p:Prop}{q r:A→Prop}(h:p∧∃x,q x∧r x)(k:p→∀x,q x→r x→G):G:=h.2.elim fun x h0=>k h.1 x h0.1 h0.2
theorem xaeeaa{p:Prop}{q r s:A→B→Prop}(h:p∧∃x y,q x y∧r x y∧s x y)(k:p→∀x y,q x y→r x y→s x y→G):G:=h.2.elim fun x h0=>h0.elim fun y h1=>k h.1 x y h1.1 h1.2.1 h1.2.2
theorem xe{p:A→Prop}(h:∃x,p x)(k:∀x,p x→G):G:=h.elim fun x h=>k x h
theorem xea{p q:A→Prop}(h:∃x,p x∧q x)(k:∀x,p x→q x→G):G:=h.elim fun x h=>k x h.1 h.2
theorem xeaa{p q r:A→Prop}(h:∃x,p x∧q x∧r x)(k:∀x,p x→q x→r x→G):G:=h.elim fun x h=>k x h.1 h.2.1 h.2.2
theorem xeaaaa{p q r s t:A→Prop}(h:∃x,p x∧q x∧r x∧s x∧t x)(k:∀x,p x→q x→r x→s x→t x→G):G:=h.elim fun x h=>k x h.1 h.2.1 h.2.2.1 h.2.2.2.1 h.2.2.2.2
theorem xeaae{p q:A→Prop}{r:A→B→Prop}(h:∃x,p x∧q x∧∃y,r x y)(k:∀x,p x→q x→∀y,r x y→G):G:=h.elim fun x h=>h.2.2.elim fun y h1=>k x h.1 h.2.1 y h1
theorem xee{p:A→B→Prop}(h:∃x y,p x y)(k:∀x y,p x y→G):G:=h.elim fun x h=>h.elim fun y h=>k x y h
theorem xeea{p q:A→B→Prop}(h:∃x y,p x y∧q x y)(k:∀x y,p x y→q x y→G):G:=h.elim fun x h=>h.elim fun y h=>k x y h.1 h.2
theorem xeeaa{p q r:A→B→Prop}(h:∃x y,p x y∧q x y∧r x y)(k:∀x y,p x y→q x y→r x y→G):G:=h.elim fun x h=>h.elim fun y h=>k x y h.1 h.2.1 h.2.2
theorem xeeaaa{p q r s:A→B→Prop}(h:∃x y,p x y∧q x y∧r x y∧s x y)(k:∀x y,p x y→q x y→r x y→s x y→G):G:=h.elim fun x h=>h.elim fun y h=>k x y h.1 h.2.1 h.2.2.1 h.2.2.2
theorem xeeaaaa{p q r s t:A→B→Prop}(h:∃x y,p x y∧q x y∧r x y∧s x y∧t x y)(k:∀x y,p x y→q x y→r x y→s x y→t x y→G):G:=h.elim fun x h=>h.elim fun y h=>k x y h.1 h.2.1 h.2.2.1 h.2.2.2.1 h.2.2.2.2
theorem xeeaaaaa{p q r s t m:A→B→Prop}(h:∃x y,p x y∧q x y∧r x y∧s x y∧t x y∧m x y)(k:∀x y,p x y→q x y→r x y→s x y→t x y→m x y→G):G:=h.elim fun x h=>h.elim fun y h=>k x y h.1 h.2.1 h.2.2.1 h.2.2.2.1 h.2.2.2.2.1 h.2.2.2.2.2
theorem xeeea{p q:A→B→C→Prop}(h:∃x y z,p x y z∧q x y z)(k:∀x y z,p x y z→q x y z→G):G:=h.elim fun x h=>h.elim fun y h=>h.elim fun z h=>k x y z h.1 h.2
theorem xeeeaa{p q r:A→B→C→Prop}(h:∃x y z,p x y z∧q x y z∧r x y z)(k:∀x y z,p x y z→q x y z→r x y z→G):G:=h.elim fun x h=>h.elim fun y h=>h.elim fun z h=>k x y z h.1 h.2.1 h.2.2
theorem xeeeaaa{p q r s:A→B→C→Prop}(h:∃x y z,p x y z∧q x y z∧r x y z∧s x y z)(k:∀x y z,p x y z→q x y z→r x y z→s x y z→G):G:=h.elim fun x h=>h.elim fun y h=>h.elim fun z h=>k x y z h.1 h.2.1 h.2.2.1 h.2.2.2
theorem xeeeaaaa{p q r s t:A→B→C→Prop}(h:∃x y z,p x y z∧q x y z∧r x y z∧s x y z∧t x y z)(k:∀x y z,p x y z→q x y z→r x y z→s x y z→t x y z→G):G:=h.elim fun x h=>h.elim fun y h=>h.elim fun z h=>k x y z h.1 h.2.1 h.2.2.1 h.2.2.2.1 h.2.2.2.2
theorem xeeeea{p q:A→B→C→D→Prop}(h:∃x y z u,p x y z u∧q x y z u)(k:∀x y z u,p x y z u→q x y z u→G):G:=h.elim fun x h=>h.elim fun y h=>h.elim fun z h=>h.elim fun u h=>k x y z u h.1 h.2
theorem xeeeeaaa{p q r s:A→B→C→D→Prop}(h:∃x y z u,p x y z u∧q x y z u∧r x y z u∧s x y z u)(k:∀x y z u,p x y z u→q x y z u→r x y z u→s x y z u→G):G:=h.elim fun x h=>h.elim fun y h=>h.elim fun z h=>h.elim fun u h=>k x y z u h.1 h.2.1 h.2.2.1 h.2.2.2
theorem xeeeeeaaa{p q r s:A→B→C→D→E→Prop}(h:∃x y z u v,p x y z u v∧q x y z u v∧r x y z u v∧s x y z u v)(k:∀x y z u v,p x y z u v→q x y z u v→r x y z u v→s x y z u v→G):G:=h.elim fun x h=>h.elim fun y h=>h.elim fun z h=>h.elim fun u h=>h.elim fun v h=>k x y z u v h.1 h.2.1 h.2.2.1 h.2.2.2
theorem xeeeeeeaaaa{p q r s t:A→B→C→D→E→F→Prop}(h:∃x y z u v w,p x y z u v w∧q x y z u v w∧r x y z u v w∧s x y z u v w∧t x y z u v w)(k:∀x y z u v w,p x y z u v w→q x y z u v w→r x y z u v w→s x y z u v w→t x y z u v w→G):G:=h.elim fun x h=>h.elim fun y h=>h.elim fun z h=>h.elim fun u h=>h.elim fun v h=>h.elim fun w h=>k x y z u v w h.1 h.2.1 h.2.2.1 h.2.2.2.1 h.2.2.2.2
end
theorem y11{p q:A→Prop}(x:A)(h0:p x)(h1:q x):∃x,p x∧q x:=⟨x,h0,h1⟩
theorem y12{p q r:A→Prop}(x:A)(h0:p x)(h1:q x)(h2:r x):∃x,p x∧q x∧r x:=⟨x,h0,h1,h2⟩
theorem y13{p q r s:A→Prop}(x:A)(h0:p x)(h1:q x)(h2:r x)(h3:s x):∃x,p x∧q x∧r x∧s x:=⟨x,h0,h1,h2,h3⟩
theorem y14{p q r s t:A→Prop}(x:A)(h0:p x)(h1:q x)(h2:r x)(h3:s x)(h4:t x):∃x,p x∧q x∧r x∧s x∧t x:=⟨x,h0,h1,h2,h3,h4⟩
theorem y15{p q r s t m:A→Prop}(x:A)(h0:p x)(h1:q x)(h2:r x)(h3:s x)(h4:t x)(h5:m x):∃x,p x∧q x∧r x∧s x∧t x∧m x:=⟨x,h0,h1,h2,h3,h4,h5⟩
theorem y16{p q r s t m n:A→Prop}(x:A)(h0:p x)(h1:q x)(h2:r x)(h3:s x)(h4:t x)(h5:m x)(h6:n x):∃x,p x∧q x∧r x∧s x∧t x∧m x∧n x:=⟨x,h0,h1,h2,h3,h4,h5,h6⟩
theorem y17{p q r s t m n o:A→Prop}(x:A)(h0:p x)(h1:q x)(h2:r x)(h3:s x)(h4:t x)(h5:m x)(h6:n x)(h7:o x):∃x,p x∧q x∧r x∧s x∧t x∧m x∧n x∧o x:=⟨x,h0,h1,h2,h3,h4,h5,h6,h7⟩
theorem y20{p:A→B→Prop}(x:A)(y:B)(h0:p x y):∃x y,p x y:=⟨x,y,h0⟩
theorem y21{p q:A→B→Prop}(x:A)(y:B)(h0:p x y)(h1:q x y):∃x y,p x y∧q x y:=⟨x,y,h0,h1⟩
theorem y22{p q r:A→B→Prop}(x:A)(y:B)(h0:p x y)(h1:q x y)(h2:r x y):∃x y,p x y∧q x y∧r x y:=⟨x,y,h0,h1,h2⟩
theorem y23{p q r s:A→B→Prop}(x:A)(y:B)(h0:p x y)(h1:q x y)(h2:r x y)(h3:s x y):∃x y,p x y∧q x y∧r x y∧s x y:=⟨x,y,h0,h1,h2,h3⟩
theorem y24{p q r s t:A→B→Prop}(x:A)(y:B)(h0:p x y)(h1:q x y)(h2:r x y)(h3:s x y)(h4:t x y):∃x y,p x y∧q x y∧r x y∧s x y∧t x y:=⟨x,y,h0,h1,h2,h3,h4⟩
theorem y25{p q r s t m:A→B→Prop}(x:A)(y:B)(h0:p x y)(h1:q x y)(h2:r x y)(h3:s x y)(h4:t x y)(h5:m x y):∃x y,p x y∧q x y∧r x y∧s x y∧t x y∧m x y:=⟨x,y,h0,h1,h2,h3,h4,h5⟩
theorem y26{p q r s t m n:A→B→Prop}(x:A)(y:B)(h0:p x y)(h1:q x y)(h2:r x y)(h3:s x y)(h4:t x y)(h5:m x y)(h6:n x y):∃x y,p x y∧q x y∧r x y∧s x y∧t x y∧m x y∧n x y:=⟨x,y,h0,h1,h2,h3,h4,h5,h6⟩
theorem y30{p:A→B→C→Prop}(x:A)(y:B)(z:C)(h0:p x y z):∃x y z,p x y z:=⟨x,y,z,h0⟩
theorem y31{p q:A→B→C→Prop}(x:A)(y:B)(z:C)(h0:p x y z)(h1:q x y z):∃x y z,p x y z∧q x y z:=⟨x,y,z,h0,h1⟩
theorem y32{p q r:A→B→C→Prop}(x:A)(y:B)(z:C)(h0:p x y z)(h1:q x y z)(h2:r x y z):∃x y z,p x y z∧q x y z∧r x y z:=⟨x,y,z,h0,h1,h2⟩
theorem y33{p q r s:A→B→C→Prop}(x:A)(y:B)(z:C)(h0:p x y z)(h1:q x y z)(h2:r x y z)(h3:s x y z):∃x y z,p x y z∧q x y z∧r x y z∧s x y z:=⟨x,y,z,h0,h1,h2,h3⟩
theorem y34{p q r s t:A→B→C→Prop}(x:A)(y:B)(z:C)(h0:p x y z)(h1:q x y z)(h2:r x y z)(h3:s x y z)(h4:t x y z):∃x y z,p x y z∧q x y z∧r x y z∧s x y z∧t x y z:=⟨x,y,z,h0,h1,h2,h3,h4⟩
theorem y35{p q r s t m:A→B→C→Prop}(x:A)(y:B)(z:C)(h0:p x y z)(h1:q x y z)(h2:r x y z)(h3:s x y z)(h4:t x y z)(h5:m x y z):∃x y z,p x y z∧q x y z∧r x y z∧s x y z∧t x y z∧m x y z:=⟨x,y,z,h0,h1,h2,h3,h4,h5⟩
theorem y40{p:A→B→C→D→Prop}(x:A)(y:B)(z:C)(u:D)(h0:p x y z u):∃x y z u,p x y z u:=⟨x,y,z,u,h0⟩
theorem y41{p q:A→B→C→D→Prop}(x:A)(y:B)(z:C)(u:D)(h0:p x y z u)(h1:q x y z u):∃x y z u,p x y z u∧q x y z u:=⟨x,y,z,u,h0,h1⟩
theorem y42{p q r:A→B→C→D→Prop}(x:A)(y:B)(z:C)(u:D)(h0:p x y z u)(h1:q x y z u)(h2:r x y z u):∃x y z u,p x y z u∧q x y z u∧r x y z u:=⟨x,y,z,u,h0,h1,h2⟩
theorem y43{p q r s:A→B→C→D→Prop}(x:A)(y:B)(z:C)(u:D)(h0:p x y z u)(h1:q x y z u)(h2:r x y z u)(h3:s x y z u):∃x y z u,p x y z u∧q x y z u∧r x y z u∧s x y z u:=⟨x,y,z,u,h0,h1,h2,h3⟩
theorem y44{p q r s t:A→B→C→D→Prop}(x:A)(y:B)(z:C)(u:D)(h0:p x y z u)(h1:q x y z u)(h2:r x y z u)(h3:s x y z u)(h4:t x y z u):∃x y z u,p x y z u∧q x y z u∧r x y z u∧s x y z u∧t x y z u:=⟨x,y,z,u,h0,h1,h2,h3,h4⟩
theorem y50{p:A→B→C→D→E→Prop}(x:A)(y:B)(z:C)(u:D)(v:E)(h0:p x y z u v):∃x y z u v,p x y z u v:=⟨x,y,z,u,v,h0⟩
theorem y51{p q:A→B→C→D→E→Prop}(x:A)(y:B)(z:C)(u:D)(v:E)(h0:p x y z u v)(h1:q x y z u v):∃x y z u v,p x y z u v∧q x y z u v:=⟨x,y,z,u,v,h0,h1⟩
theorem y52{p q r:A→B→C→D→E→Prop}(x:A)(y:B)(z:C)(u:D)(v:E)(h0:p x y z u v)(h1:q x y z u v)(h2:r x y z u v):∃x y z u v,p x y z u v∧q x y z u v∧r x y z u v:=⟨x,y,z,u,v,h0,h1,h2⟩
theorem y53{p q r s:A→B→C→D→E→Prop}(x:A)(y:B)(z:C)(u:D)(v:E)(h0:p x y z u v)(h1:q x y z u v)(h2:r x y z u v)(h3:s x y z u v):∃x y z u v,p x y z u v∧q x y z u v∧r x y z u v∧s x y z u v:=⟨x,y,z,u,v,h0,h1,h2,h3⟩
section
open Lean
def obS:=["eeeeeeaaaa","eeeeeaaa","eeeaaaa","eeaaaaa","eeeeaaa","eeeaaa","eeaaaa","eeaaa","eeeaa","aeeaa","eeeea","aaaaa","eaaaa","eeaa","aaea","eeea","eaae","aaaa","eaa","eea","aaa","aea","ea","aa","ee","a","e"]
def obG(ps:Array (TSyntax ``Parser.Tactic.rcasesPatLo))(t:Term):MacroM (TSyntax `tactic):=do
 let n:=ps.size
 if n<2 then Macro.throwUnsupported
 let p←ps.mapM fun p=>do `(rintroPat|$(←`(rcasesPat|($p))):rcasesPat)
 let c←if t.raw.isIdent then `(tactic|try clear $(⟨t.raw⟩)) else `(tactic|skip)
 let a←(obS.toArray.filter (·.length<n)).mapM fun s=>do
  let k:=s.length
  let x:=mkIdent ("x"++s).toName
  if k+1==n then `(tacticSeq|refine $x $t ?_;$c;rintro $p*)
  else
   let q:=ps.extract k n
   let r:=p.extract 0 k
   `(tacticSeq|refine $x $t ?_;$c;rintro $r* z;obtain⟨$[$q],*⟩:=z)
 let a:=a.push (←`(tacticSeq|rcases $t:term with ⟨$[$ps],*⟩))
 `(tactic|first $[|$a]*)
def obI(ts:Array Term)(f:Term->MacroM (TSyntax ``Lean.Parser.Tactic.tacticSeq)):MacroM (TSyntax `tactic):=do
 let n:=ts.size
 if n<3||n>9 then Macro.throwUnsupported
 let a←([3,2,1,4,5].filter (·<n)).toArray.mapM fun i=>do f (←`($(mkIdent s!"y{i}{n-1-i}".toName) $ts*))
 let a:=a.push (←f (←`((⟨$[$ts],*⟩))))
 `(tactic|first $[|$a]*)
end
local macro_rules
 |`(tactic|exact⟨$[$t],*⟩)=>obI t fun x=>`(tacticSeq|exact $x)
 |`(tactic|refine⟨$[$t],*⟩)=>obI t fun x=>`(tacticSeq|refine $x)
local macro_rules|`(tactic|obtain⟨$[$p],*⟩:=$t)=>obG p t
theorem zq{a c:A}{b d:B}(e:some (a,b)=some (c,d)):a=c∧b=d:=by cases e;exact⟨rfl,rfl⟩
local macro_rules|`(tactic|cases $h:ident)=>`(tactic|first|subst $h|(have z:=Option.some.inj $h;clear $h;subst z)|(obtain⟨x,y⟩:=zq $h;clear $h;subst x;subst y)|cases ($h))
set_option Elab.async false
set_option bootstrap.genMatcherCode false
set_option linter.all false
set_option maxRecDepth 100000
section
open Lean
def zS(m:NameMap Syntax):Nat->Syntax->Syntax
 |n+1,.node _ k a=>.node .none k (a.map (zS m n))
 |_,.ident i r v p=>match m.find? v.getRoot with
  |some s=>if v.isAtomic then s else mkIdent (v.replacePrefix v.getRoot s.getId)
  |_=>.ident i r v p
 |_,s=>s
def zA(d:NameMap (List Name×Syntax))(s:Syntax):Option Syntax:=
 let (f,a):=if s.isOfKind `Lean.Parser.Term.app then (s[0],s[1].getArgs) else (s,#[])
 match d.find? f.getId with
 |some (p,b)=>if p.length==a.size then some (if p==[] then b else zS ((p.zip a.toList).foldl (fun m x=>m.insert x.1 x.2) {}) 999 b) else none
 |_=>none
def zE(d:NameMap (List Name×Syntax)):Nat->Syntax->Syntax
 |n+1,s=>match zA d s with
  |some t=>t
  |_=>match s with
   |.node _ k a=>
    let a:=if k==`Lean.Parser.Term.basicFun then a.modify 0 fun b=>.node .none `null (b.getArgs.map fun x=>if x.isOfKind `Lean.Parser.Term.hole then mkIdent `_x else x) else a
    .node .none k (if k==`null then a.foldl (fun r x=>
     let y:=if x.isOfKind `Lean.Parser.Tactic.show then zA d x[1] else none
     match y with
     |some y=>if y.isOfKind `Lean.Parser.Term.byTactic then r++y[1][0][0].getArgs else r.push (zE d n x)
     |_=>r.push (zE d n x)) #[] else a.map (zE d n))
   |.atom _ v=>.atom .none v
   |.ident _ r v p=>.ident .none r v p
   |x=>x
 |_,s=>s
def zC(d:NameMap (List Name×Syntax))(c:Syntax):Syntax:=
 match c[1].isStrLit? with
 |some s=>if s.front != '-' then c else .node .none `Lean.Parser.Command.end #[.atom .none "end",.node .none `null (if s.length==1 then #[] else #[mkIdent (s.drop 1).toName,.node .none `null #[]])]
 |_=>zE d 999 c
def zM(cs:Array Syntax):MacroM Syntax:=do
 unless cs[0]!.isOfKind `Lean.Parser.Command.check do Macro.throwUnsupported
 let d:=cs[0]![1][1].getSepArgs.foldr (fun x (d:NameMap (List Name×Syntax))=>
  let l:=x[1][0].getArgs.toList.map (·.getId)
  let b:=x[1][3]
  d.insert l.head! (l.tail!,zE d 999 (if b.isOfKind `Lean.Parser.Term.paren then b[1] else b))) {}
 return mkNullNode ((cs.extract 1 cs.size).map (zC d))
end
local macro_rules|`(mutual $cs* end)=>zM (cs.map (·.raw))
mutual
#check[
λcK h=>(by refine je6;exact h.mono aA;exact rfl;show aB),
λaA=>by decide,
λbE=>(by exact rfl;show fK),
λaB=>(by refine Qa ?_ ?_),
λdG=>⟨rfl,rfl,rfl,fW,rfl,fW,fW⟩,
λbR=>(by show jW;show kD),
λaN=>(by decide;show iK),
λbO=>(by show jB;show dH),
λaF=>by simp,
λaD=>List Str,
λeJ=>(by refine Qv QF Qo ?_ ?_ NO ?_ ?_ ?_ ?_ ?_;show cC),
λbH=>(by exact rfl;exact dA),
λbB=>by show rQ,
λbM=>(by show hX;refine Qp ?_),
λbI=>Value->cS,
λaM=>mC (.int 1),
λcU=>(by show jW;refine QK ?_ ?_ ?_),
λaT=>(by exact Qc _;exact Qd),
λaX=>model prog w,
λaE=>Qe 0,
λbP=>List (Addr×Obj),
λaO t c=>(by obtain⟨t,rfl⟩:=c),
λbZ=>model X.prog X.w,
λiJ=>(by show jW;refine YP Z9;exact Eb;exact rfl),
λbC=>mC uE,
λbJ=>Option (W×MH),
λbX=>(by refine Qs Qu Qh ?_ ?_),
λdP e=>(by refine Qr (QW ?_) Qh ?_ ?_;exact e),
λj3=>(by exact QM Hc rfl dA),
λjK=>(by show i8;show qP;show dH),
λRm=>Qb mU (Qb B7 (Qb B5 (Qb vM (Qb Tb (Qb yJ (Qb sV (Qb yQ (Qb HC (Qb yK (Qb qJ (Qb HI Ql))))))))))),
λc7 L=>.lst (gW L),
λaZ=>List Value,
λaS i=>sO d3,
λkX=>(by show hX;show xZ;exact Qc _),
λfK=>(by first|exact uG|exact PV),
λcX a d o p e=>(by obtain⟨⟨a,d⟩,o,p⟩:=eH e),
λcQ=>Inv X pins σ H s,
λbY=>mC (.int 2),
λbK b=>s.heap.get? b,
λcC=>(by exact rfl;assumption),
λuY=>(by refine Kh ?_;simp[Yj,wl,giv,join_cons2,jn1,Sp.app_cps,sgc,Qj8,Qjv,Qj0,QjK,Qjt,QjW,QjF,QjC,QjD,QjU,QaW,Qbb,Qal,Qaa]),
λcW=>λ_ _ _ _ _=>?_,
λaQ=>by lia,
λnV z=>(by rcases z with⟨rfl,rfl⟩|⟨_,rfl,rfl⟩|⟨_,rfl,rfl⟩|⟨_,rfl,rfl⟩),
λaH=>List W,
λcD g=>by show lJ g,
λc'=>Str->jS,
λa'=>by decide,
λbA x=>sO cM,
λbL=>by omega,
λcL j=>by show lJ j,
λbG n=>sO (.int n),
λc9=>Ext.refl _,
λgB=>(x==HU)=false,
λaC a=>.ref a,
λaK=>Qe 1,
λjM=>(by refine Za ?_ ?_ ?_;exact Qc _;refine Q3 ?_),
λq5=>starEach eO X.env=(false,iX e)::starEach es X.env,
λaY=>by simp,
λcE=>sO (.ref 0),
λf4 x c=>(by obtain⟨x,_,rfl,c,e⟩:=QI e),
λnW=>X.fn x=true\/zu3=nI,
λcJ=>["program"],
λcS=>Shared->Prop,
λh9 c x=>λb o z=>c.sub b o (x.f b o z),
λdH=>(by exact Qc _;exact Qf),
λcN=>⟨_,rfl⟩,
λaG a=>.ref a,
λgC=>(by show jB;exact Qc _),
λdL=>mC (.int 3),
λaU=>by lia,
λaV=>Qe 2,
λaW=>id rfl,
λcF a b=>Inv X a b H s,
λdA=>Or.inl rfl,
λnX=>Mi.blk X scope cl Nb f Y C fp zk0,
λbT g c=>(by rw[g]at c;cases c),
λdI b o r s=>(by obtain⟨b,o,r⟩:=mJ s),
λi4=>.ref s.heap.objs.size,
λmM=>List.replicate t.toNat jQ,
λhA=>ZU (mC wI),
λbN=>.lst [],
λcG h=>(Nh.mp h).1,
λfW=>by show rQ,
λsM=>["numbers","boxes","words","others","deep","left"],
λj4 a d j=>Mi.blk X scope cl Nb a d C ex j,
λdC=>Array Value,
λbD=>List V,
λi5 z g e=>λz=>BD z g e,
λbU p=>sO (Zb p),
λq8=>∀x,foldedSetIterable iter X.env x=pure x,
λlN h v c a b=>(by show C8 h;obtain⟨v,c,rfl,a,b⟩:=h),
λdV=>(by exact Qj;exact Qd),
λfL l=>.lst (gW l),
λzm2=>forIn ifs true λc r=>if r=true then do let ok <-isTrue c zt6 (eval c zt6);jA5 else jx9,
λqA=>Z' a=[(false,iX a)],
λoU=>[.lst [aL o],.lst yR],
λcH=>Option W,
λfO k=>sd vY,
λkC=>zG7 x=sO c,
λdB=>Option Int,
λcV=>List Addr,
λdR=>mg "len"=nO,
λeC=>.type "list",
λzS4=>Q6 3 (mFn JB (Qb (mC (.str "pairs")) (Qb (mC (.str "o")) (Qb (mC (.str "seconda")) (Qb (mC (.str "nones")) (Qb (mC (.str "en")) (Qb (mC (.str "backs")) (Qb (mC (.str "eithera")) (Qb (mC (.str "ors")) (Qb (mC (.str "dos")) (Qb (mC (.str "ends")) (Qb (mC (.str "agains")) (Qb (mC (.str "parts")) (Qb (mC (.str "firs")) Ql)))))))))))))),
λdW=>Option Addr,
λcM=>.str x,
λaI h d=>h.get? d,
λcY=>["thing"],
λsN=>envOfC qual scope s0.heap.objs.size f cd,
λi6=>Array zQ8,
λeN=>(bk m h k).1,
λc8=>List Pt,
λlO=>(by refine PMW.pt ?_;refine XF ?_ ?_),
λAI n=>k==NameKind.free&&ju5&&Pp n==lF,
λoV=>(by refine ZH ZR Qo ?_ ?_ N5 ?_ ?_ ?_ ?_ ?_),
λj5=>(by refine Z6 ?_;refine ZJ ?_),
λaJ x=>.str x,
λkD=>(by refine Qm ?_ ?_ ?_ ?_ ?_ ?_),
λfP=>(by exact Qd;exact rfl),
λbW d=>if_pos d,
λi7=>λz=>uN z,
λkY=>[.lst J'],
λj6 J z I v1=>(by show g6 J z;show g6 I v1),
λgO=>Qb hY Ql,
λmO=>(by show hX;refine QK ?_ ?_ ?_),
λcA f c e p q d=>(by obtain⟨f,c,e,p,q⟩:=d),
λj7=>mC (.str "NAME"),
λlP=>sO (.lst qU),
λd3=>.int i,
λfQ j t f e=>(by obtain⟨j,t,f⟩:=eH e),
λaL i=>.int i,
λfR=>Hp->VK->Prop,
λcZ d j Q=>(by intro d s j H Q I h),
λi8=>(by refine Qs QT Qh ?_ ?_),
λzm3 g f b=>(by refine Na (N1 g f b ?_);dsimp only;unfold setsByText;refine Na (Na (Da f6));show wpAny _ _ (if zs0=true then _ else _) _ _ _),
λeU e=>(by cases e;unfold eqW),
λAJ=>(by refine Za ?_ ?_ ?_;show MN;refine Q3 ?_;exact Qc _),
λmP=>Str.ofString "tell  a",
λd7=>λ_=>rfl,
λmQ=>Q () { s with heap:=h' },
λuZ=>(by first|exact uG|exact PV|assumption),
λlQ a=>Heap.SameBut a s.heap h',
λkZ=>(by show CA h;exact h),
λj8 e g d p w q=>(by show lK e g;obtain⟨d,p⟩:=w q),
λgQ=>mC (.int 5),
λgD m l j=>m.trans (eI l j),
λdD=>List Nat,
λdE=>["line"],
λkE c=>.ref c.heap.objs.size,
λcT=>(k:Int),
λeV=>Rh K R h H,
λqB=>.builtin "object.__class__",
λgZ=>Rws K R ws xs,
λRp=>(by refine congrArg (λd=>@ob _ _ d Cv) (funext (fX p));show fV c h p;cases c<;>rfl),
λdM=>.bl true,
λAK=>Cal P w K mg base 1 "_law_mixed" zA Qw,
λeE=>List Expr,
λcB=>Qe 3,
λnY e c=>(by cases e;obtain⟨v,rfl,c⟩:=Wb rw),
λfE=>.inl rfl,
λdQ=>Hp->Prop,
λRq=>wpAny _ _ (spliced ((false,iX e)::backTo pos qE)) _ _ s,
λl0 c o=>(by obtain⟨c,o,rfl⟩:=NI.mp hw),
λRs=>["number","many","letters","near","kept","size","at","base","found","k","name"],
λmS=>sO (.tup n0),
λeK a=>Value.ref a,
λAL=>.ListComp elt [⟨tg,iter,ifs,0⟩] scope pos,
λAM=>(by refine Qv (Ku ?_) Qo ?_ ?_ Dz ?_ ?_ ?_ ?_ ?_;exact rfl),
λd4=>List Ln,
λmT L0=>(by with_reducible refine L0.at ?_),
λRt=>(by cases a<;>first|(unfold pur at b;cases b.1;done)|(unfold Wf;rw[if_pos b.1,this];rfl)),
λlR h=>(by show PK h;subst h),
λeF x b=>(by rename_i x;cases b),
λcO=>Ny _,
λiK=>(by exact rfl;exact rfl),
λqC=>(by refine PMW.pt ?_;refine VI ?_ ?_),
λl5=>(by refine ZT ?_;exact Qc _),
λv3=>(by refine Qv Xb Qo ?_ ?_ N9 ?_ ?_ ?_ ?_ ?_),
λdZ=>NB _ _,
λeW E c σ=>E c s σ H _ I h,
λiL=>Q9 m7,
λiM=>mC (.int 8),
λqD c=>(by refine Qr (K1 ?_) Qh ?_ ?_;exact c),
λd8=>(by refine QY ?_),
λjN=>mC (.str " "),
λzm4=>["script","top","heads","many","boxes","words","names","count","left","parts","k","numbers","often","more"],
λlT=>x.length<=sizeLine,
λbQ a f=>λa f=>?_,
λgR=>X.calm=true,
λl6 a=>λz=>a (kS z),
λzS5 U m l h=>(by unfold pyNext;refine Na (FK (EO (name:=Su) U slotN (EE slotN U QjE ?_ (Qoe _))));unfold Builtin.«set_iterator.__next__»;refine Na (Nj (Na (wpAny_fieldsOf m rfl ?_)));dsimp only;refine Na (IU u r l ?_);rw[if_neg (kS h)]),
λfS=>(by exact Qd;decide),
λzS6=>(by simp only[newExc,newTuple];refine Na (Eh ?_ M6);refine Na (m:=firstArgMember _ _) (DC (a:=Value.none) zZ7 (Eh ?_ M6));simp only[raiseNew];refine Na (OT ?_)),
λgU V=>List (Key×V),
λRu=>λj=>((os'++g)[j]?).bind (thO zq3),
λv9=>decide (97<=c)&&zL2,
λoW e r=>(by obtain⟨u,rfl,e⟩:=Yl r;cases e),
λcR h=>if_neg h,
λzm5=>(match R1.F a with|gA o=>sO o|none=>if zp4 then H1 a else nO),
λiT=>mC (.int 4),
λkG=>(by refine VG ?_;exact Qd),
λFr=>Cal P w K mg base 2 "size_with" HX Q0,
λiU=>ws.map .str,
λfY u Y S t l=>(by obtain⟨u,Y,S⟩:=t.get l),
λlU=>List (Option Nat),
λl7=>(items.size:Int),
λkH=>(es.length:Int),
λxY=>.Call (sA p) eO [] pos,
λFI=>S5-B8,
λmU=>mC (.str "pair"),
λvA=>(by refine Jj N4 EY EZ X8 ?_ ?_;exact Qj),
λsP=>(by show Rc;cases p),
λsQ=>["number","boxes","words"],
λgE=>Yr l=false,
λi9=>(by exact Xy;exact QA),
λhF=>sO (scr ns),
λgG h=>by simp at h,
λl8 b f d=>(by obtain⟨b,f,rfl⟩:=mJ d),
λxZ=>(by refine Q1 ?_;refine Jj NH NJ NP QR ?_ ?_),
λeX=>List Int,
λAN=>.fields #[.int lo t,.int hi u,.int 1 v],
λy0=>decide (97<=c)&&zL2,
λoX r z=>by show sK r;exact z,
λeY r=>r.length+1,
λoY=>.type "ValueError",
λy7=>sO (.str (Str.join fU a)),
λdX c=>Nu c.symm,
λoZ=>Array (Option Value),
λGo=>sO ⟨wE,nO,.dict es.toArray n,#[]⟩,
λRx=>[W.int (mx ns 0),.int (mx ns 1),.int (mx ns 2),.int (mx ns 3)],
λsR w n p o e=>(by obtain⟨⟨w,n⟩,p,o⟩:=mJ e;cases o),
λgH g=>⟨_,g,rfl⟩,
λd9=>ZK 0,
λvB p a=>(by intro p a;simp only[NC,Ey,or_false]at a),
λsS=>Qb Id Ql,
λlV h=>sO U',
λlW g Y=>(by obtain⟨g,Y,e⟩:=eH e),
λjO=>.type "tuple",
λjP=>mg "tuple"=nO,
λnZ=>["parts","number"],
λjQ=>(["do",y]:Ln),
λp0 y=>sO (.tup (CP y)),
λeB=>(i:Int),
λlX=>(by refine Qs Jw Qh ?_ ?_),
λaP x c e=>λx c e=>?_,
λiA=>(by simpa using this),
λdF=>Qe 4,
λG'=>(List.range Q.length).map λi=>r9,
λfM=>NF _ rfl,
λhG=>⟨#[c]⟩,
λy8=>∀a o,R.F a=sO o->R'.F a=sO o,
λvC d=>(by obtain⟨as,m,d⟩:=mJ e;subst d),
λy9=>(strKind prog w).is k e.2=true,
λn'=>Loc X.env.scope x,
λkI=>Rws K R ws vs,
λo0=>LineOk bs ws la l,
λzm6=>SO/\SJ/\∃vs,wU/\h.DictOf (KO P w) a vs,
λeL=>(n:Int),
λfN P=>(by cases P),
λzm7=>do if(<-isInstance e jl5)=true then pure nO else throw e,
λfT=>List Env,
λeO=>e::es,
λvD e=>(by refine Qr (YV ?_) Qh ?_ ?_;exact e),
λgV=>["words"],
λdJ x=>RelV x u,
λjS=>Option Value,
λjU=>A.handled=nO,
λiB=>Rw K R w v,
λsT=>BlkOk X scope cl Nb cp,
λeG=>(by refine Zw ?_),
λH9=>(leap m (sq m h n).i (sq m h n).perturb).1,
λvE=>(by refine VU ?_ ?_ ?_ ?_;exact rfl),
λzS7=>(by ·have b:¬x=y:=λz=>e z.symm;rw[show(y==x)=false from SB e,OV,DF,decide_eq_true_eq,decide_eq_true_eq,NC];exact⟨.inr,λz=>z.elim (λq=>absurd q b) id⟩),
λiC e=>eval e X.env,
λeQ h=>I.tuple h,
λl9=>.builtin id,
λRy x l=>(by rename_i x g;show zH g;cases d;show qW v l r),
λvF=>λb=>MO.lst P6,
λo6=>by simp[forms],
λqE=>starEach es X.env,
λeZ=>.lst ws,
λRz=>.Raise (sO (.Call (.Name x np) [e] [] cpos)) nO pos,
λj9=>mFn WE Ql,
λeS=>(1:Int),
λiV o p d=>λo p=>d o (Nt _ p),
λdS=>Qe 7,
λHa=>mC (.str "abcdefghijklmnopqrstuvwxyz"),
λsU=>p.drop zR7,
λzm8=>rS t S' Te (sO (.lst Tt)) x6,
λf6=>Nj ?_,
λjV b n=>.seq b.toArray n,
λzS8 w=>(by rw[Nr,Nr]at this;by_cases w:zA9;·rw[Y2 w];rw[show min d.length c.length=as.length by lia,show(d.length==c.length)=true by simp;omega,OP]at this;exact this),
λmV k=>nm d l Cw k,
λzS9=>(by show((UD z9).bind λzs=>if(zs.map (·.length)).sum+zs.length*Mu<=16777216 then sO (W.str (Builtin.Str.glued eM zs),h)else nO)=_;rw[YX,Ni,<-IH]),
λkJ=>X.N[i]?=sO x,
λfZ=>by omega,
λfA=>.tup ws,
λp4 z D Q d g=>(by obtain⟨ad,z,rfl,D,Q⟩:=d.tupAt g),
λvG u x r=>show∃t,u=P7 t from r,
λjA q=>by rw[q];simp,
λhH=>drf h n,
λmW=>λ_ _=>False,
λdY=>Qe 6,
λlY=>(by exact Qc _;exact Qj),
λsV=>mC (.str "either"),
λgI=>.ref 1,
λHb=>(by simp[Qz]at lo a;simp[QJ,QN,wl,giv,Qz,Qkx,a,lo]),
λlZ=>sO (.ref 0),
λo9=>(by refine KP ?_ ?_ ?_ ?_),
λoA=>(by refine KR ?_;exact Qf),
λqF=>mg "isinstance"=nO,
λiW=>x.2.length,
λAO=>[("pair":Str),"first","second"],
λqG=>(by exact sc_read_program.nd),
λiD=>.lst xs,
λiE=>.ref it,
λlA=>env::outer,
λdO e g=>(by have e:=g.units),
λl'=>(An:Int),
λoB e=>(by rw[e]at this;cases this),
λiX a=>eval a X.env,
λvH=>OpR X (compareOp op) r,
λp5=>live src items h,
λzT0 a f c e=>(by obtain⟨o,a,f,hd⟩:=id hit;obtain⟨ol,b,_,nl,c⟩:=e;unfold Builtin.SmallTypes.nextOf;refine Na (EO (name:=Su) hit.typeIs DT (EE DT hit.typeIs Lg ?_ (Le _)))),
λzm9 s b=>λr s=>r=.ok (.ret Ms)/\OldK b.heap s.heap/\s.os=b.os/\zL s,
λzT1=>⟨ok.mod,ok.kind,ok.glob,ok.blt,ok.above,ok.inj,ok.has,ok.cab,ok.hd,ok.frames,ok.stk,ok.exf,ok.bs,ok.bsz,ok.noex,ok.exfs,ok.funs,ok.frf⟩,
λzT2=>["enumerate","zip","dict_itemiterator","dict_reverseitemiterator","odict_iterator","itertools.zip_longest","itertools.pairwise"].contains n,
λkK=>XO a C dd,
λfU=>sg 32,
λoC D B=>(by obtain⟨D,g,d,B,os⟩:=s),
λsW=>t.fits es.size=true,
λzT3 M J=>sO (.bl (decide (M<=5)&&(decide (J<=5)&&(decide ((szw IO x.2).wy<=24)&&(smB (szw IO x.2)&&p.all λy=>smB zJ)))),h),
λAQ=>HT.sIx xs.length xs.length hi,
λmX=>.Name x pos,
λRA=>(match h[n]? with|some kO=>sO ws|_=>nO),
λgW l=>l.map .str,
λeM=>sg c,
λoE=>.type "type",
λHc=>by dsimp only[blk];show rQ,
λqH=>(by exact sc__law_spoilt.nd),
λzn0=>(((x::rest).map W.str).zipIdx es.length).map zv5,
λiN=>.bl false,
λAR b c d=>(by show CA h;obtain⟨a,xs,b,c,d⟩:=h),
λiO=>Kw l=true,
λfG r=>(by unfold Rw at r),
λzn1=>λp q=>Rw K R p.1 (.ref q.2.1)/\nrm p.1=sO q.1/\Rw K R p.2 q.2.2,
λgX w v=>Rw X.K R w v,
λqI h=>(by rcases NC.mp h with rfl|h),
λp6=>(by refine Qr Kx Qh ?_ ?_),
λp7=>(by exact sc_size_with.nd),
λsX e=>(by unfold JX;rw[ei,Ni];exact e),
λkL e=>λ_ _ e=>e.elim,
λoF s=>decide_eq_true s,
λyA=>SetTable.grown d.size,
λp8 p a b=>(by obtain⟨p,a,rfl⟩:=NI.mp b),
λqJ=>mC (.str "do"),
λRB=>[("first":Str),"second","same","none","tell"],
λAS x b=>(by rcases x with⟨t,rfl⟩|⟨b,rfl,rfl⟩),
λAT=>if uL<4 then 1 else 0,
λlB=>HOk P w H h,
λhJ=>s.toks+1,
λjB=>(by refine Qx ?_ ?_),
λvI=>["script","program"],
λsY=>(by exact sc__law_program.nd),
λiY=>["lines"],
λvJ=>MO.lst (CB s),
λhL a=>⟨a,rfl⟩,
λqK=>(by exact sc__law_names.nd),
λHd=>sO (.lst ((a::b::d::r).map .str)),
λsZ e=>(by dsimp only at e;split at e),
λkM=>Rw.int _,
λHe=>.builtin "ValueError.__init__",
λzn2=>.fields #[.ref h.objs.size,.none,.none,.none,pE,.none],
λRC=>(by show hX;refine YP Y6;exact Qc _),
λt6=>sO (.ref (m+1)),
λHf=>(Cl++CT).map .str,
λoG=>.ref h.length,
λjC=>Rw.bl _,
λjD=>.lst [],
λmY=>List (κ×V),
λgJ=>I.tok _,
λf0 h=>I.list h,
λp9=>(x.length:Int),
λzn3=>c.heap.push { cls:=.type "slice",data:=.fields #[g,vu,.none] },
λkN=>VF e=false,
λmZ y g d=>λy g=>d y (Nt _ g),
λRD=>sO (sO (.builtin "type.__getattribute__")),
λt9=>["number","many"],
λyB=>[c0,c1,c2,c3,c4,c5,c6],
λpA=>(als p).length,
λfH N m l A=>(by obtain⟨N,m,l⟩:=A),
λvK=>λa=>decide (a.1=k),
λvL=>ws.length<=sizeLine,
λqL m F o l O Y=>(by obtain⟨ad,m,rfl,F,o⟩:=l.lsAt O Y),
λqM=>by kernel_rfl,
λjE=>["parts"],
λqN=>mC (.str "="),
λHg l i t x=>(by rcases Jl l with⟨i,t,rfl,rfl⟩|⟨x,t,rfl,rfl⟩),
λzn4=>(by obtain⟨n,rfl⟩:∃n:Nat,i=n:=⟨i.toNat,zu7⟩),
λyC s a=>SetL prog w s.heap a ks led,
λjW=>(by refine Qg ?_ ?_),
λAU=>(strKind prog w).hash x,
λqO=>["box","words"],
λRE=>congrArg (λs:Str=>s.cps.toList.length) e,
λRF=>⟨#[97+((n/9360+3*kT)%26).toNat]⟩,
λiF a=>K.lookup a,
λHh f=>absurd (show false=true from f) EC,
λzn5=>(backToKw cpos jx5).all (λx=>x.1.isSome),
λzn6=>(by unfold th at e;obtain⟨us,h1,d⟩:=mJ e;subst d;show CA h),
λRG=>.Call (.Name "enumerate" p) [a] [] pos,
λqP=>(by refine Qs Zy Qh ?_ ?_),
λHi=>w.params.followText "set-order",
λRH H'=>Inv X pins σ H' { s with heap:=h',toks:=t' },
λgK=>(0:Int),
λyD=>-18446744073709551616,
λvM=>mC (.str "none"),
λyE=>.lst ((als p).map Qz),
λyF=>(["pair",a,w,b,c]:Ln),
λqQ h=>decide_eq_false h,
λfV t e d=>(by obtain⟨t,e⟩:=d),
λRI=>.Call (.Name "reversed" p) [a] [] pos,
λlC=>Vals xs us,
λyG q d=>by rw[QE (Zo q d)];exact q,
λtD=>b≠X.env.locals,
λjX=>List Stmt,
λHj=>(apos.endLine==cpos.line)=true,
λvN=>X.A.units+64<cLine,
λpB=>mC (.int 6),
λtE=>["words","form"],
λvO=>.lst (wt.map .str),
λjF b p=>b.heap.get? p,
λAV c=>(by refine Xo (QW ?_) Qh ?_ ?_;exact c),
λpC=>List (Str×V),
λRJ=>.builtin "getset_descriptor.__get__",
λAW=>t.plain=true\/es.size<=1,
λyH=>(by exact rfl;exact zd7),
λn0=>ls.map Qz,
λoH=>by simp[bxs],
λAX=>(St.uniq (Wo++d)).length,
λtF b=>if b then 1 else 0,
λqR=>x≠"__name__",
λqS=>bootBuiltins x,
λtG m=>h.Ns mainGlobals m,
λzT4 f=>(by have L0:=I.type (M:=BQ);have L1:=looks_find (M:=BQ) X I f;refine Na (Nj (Na (Nj (Na (L0.at (Na (L1.at ?_)))))))),
λn5=>es.map .str,
λqT=>List (List Ln),
λiZ=>T7 180 y,
λg6 e r=>(by have e:=r.length),
λkO=>.lst ws,
λzn7=>(if∃x,x<R.N/\x∉A/\AC=a then H a else R.G a)=sO o,
λAY=>.type "BaseException",
λAZ=>(es.map evR).map .str,
λtH=>.type "tuple",
λkP b=>(by rcases b with b|b),
λA'=>Value->Value->Pq,
λhQ=>sO true,
λvP=>List (Str×Value),
λB0=>sO (.lst (Wd.map .str)),
λRK=>b∈X.ex\/X.s₀.heap.objs.size<=b,
λjG=>.int j,
λtK=>List (Str×Int),
λtL=>["row","ahead"],
λtM=>GoodP N bs ws p,
λn6 y=>sO (.str y.1),
λyI=>xs.length<=sizeLine,
λRL f a e=>(by show xX f;·subst f;show zj9;exact new),
λRM=>(relabel scope X.env).names.lookup x,
λB1=>by rw[DM];kernel_rfl,
λzT5=>⟨fB b o e n O B,fB b o e n O B,I.base.free,fC b o e B,I.base.tups,I.base.frzs,I.base.tbls⟩,
λhV p=>drf h n p,
λqU=>zs.map .str,
λg8=>List a,
λzn8=>(by rw[show n+(j+1)+1=n+1+j+1 by exact DR _ _ _]at this;exact this),
λHk=>by unfold argsOk;kernel_rfl,
λHl=>LnSt bs ws os D lf0 L wt lf,
λHm=>(Str.ofString " ").length=1,
λoJ=>mg "all"=nO,
λRN=>QC (g:=[]) zD8 ?_ rfl,
λgL q=>λ_ _ q=>q,
λeH e=>Nc.mp e,
λlD=>PM X a ma,
λRO=>Mi.blk X scope cl Nb O R C ex pn,
λn9=>drf h 40,
λzn9=>Rws.pur_mono b ws xs (by unfold pur at p;exact p) c,
λvQ p=>(by unfold Vj at p;rw[NL]at p),
λnA=>ZS [2,3],
λyJ=>mC (.str "back"),
λvR=>["script","top"],
λvS=>["row","number"],
λqV=>(by intro a b;simp at b),
λnB=>(by obtain rfl:=JO e),
λnC=>if_pos rfl,
λgM=>H b=nO,
λiP o z=>(by rcases o with z|z),
λnD=>.fields vs,
λHn s a g p=>show s.heap.IsTuple a g.toArray from p,
λjY=>Ext R R',
λcP w b=>sO (w,b),
λtN=>[nO,sO 2,sO 0],
λg9 p=>p.map Zm,
λB2=>OpR X (binaryOp op) r,
λB3=>HT.sIx xs.length 0 lo,
λhX=>(by refine Qk ?_),
λzT6=>(∀l∈ls,(ZG d l).dp<=E)->(JU d qz ls).lv=(JU [] qz ls).lv/\(JU d qz ls).dp<=(JU [] qz ls).dp+E,
λeI a z=>a.trans z,
λzo0 e=>do let v <-whole;standAt e.pos;holding [v] (truthy v),
λzo1 b c=>Room k (A.deeper (envOfC b jZ s.heap.objs.size f c)),
λHo=>by rw[Fk,Dy];kernel_rfl,
λzo2=>Cal P w K mg base 1 "is_small_letter" rN QV,
λzT7=>decide (zb2+jx6+ja6<30),
λnE z=>absurd rfl z,
λB4 a v=>if a.1=k then(a.1,v)else a,
λkQ=>R.ρ n,
λRQ=>λp q=>jA4,
λRS c=>I1.kept (t':=c.toks) λb o e=>k8,
λzo3=>.ListComp elt [⟨tg,iter,[c],0⟩] scope pos,
λpD=>wIn false,
λzo4=>unsupported "internal:set-table-lost-an-element",
λB5=>mC (.str "second"),
λyK=>mC (.str "end"),
λzo5=>Cal P w K mg base 1 "_law_closed" zP Z2,
λHq=>[nO,sO 0,sO 10,sO 7,sO 3],
λyL=>(Zx Q).map .str,
λRT d B=>show s.heap.IsTuple ad d.toArray from B,
λvU=>if_pos (V7 _ _),
λyM e a b=>(by by_cases e:a=b;·subst e;simp),
λyN c f H s z=>Inv X c f H { s with heap:=z },
λyO=>x.length+y.length,
λRU=>pure (.type "method_descriptor"),
λzo6=>.ListComp elt [⟨tg,iter,[],0⟩] scope pos,
λoK=>p.take j,
λkR=>ps m h k,
λpE=>.bool false,
λpF=>(by exact Qf;exact Qd),
λB6=>(by refine Jj N4 ET Dt Kz ?_ ?_),
λtO=>xs.map .str,
λj0=>.inl ?_,
λzT8 J=>L.Nodup->(∀y∈L,(∃a b c,(["pair",a,y,b,c]:Ln)∈als p)\/(["back",y]:Ln)∈als p)->L.length<=J,
λRV=>.BoolOp .And (a::b::rest) pos,
λpG=>(ZG d l).wy,
λvV=>["part","NAME"],
λoM=>pure false,
λzo7=>by unfold pur at p;unfold th;rw[Xl f ws p];rfl,
λyP h a=>SetL prog w h a ks led,
λtP=>mg "range"=nO,
λzo8=>Cal P w K mg base 1 "_law_is_name" Ah Ja,
λzT9=>s.heap.get? p.1=Ax/\H p.1=nO/\p.1≠X.env.locals/\p.1∉X.fs/\∀v,p.2.data≠.cell v,
λRW=>@om _ _ zQ7 (atI ws i),
λB7=>mC (.str "first"),
λzU0=>rS t S' Te (sO (.lst Tt)) (sO pV),
λkS f=>by simp[f],
λnF=>.tup xs,
λlE=>.str y,
λpH g n=>λb g=>(n b g).1,
λHr=>.builtin "isinstance",
λnG=>mC .non,
λqW u c d=>(by obtain⟨u,rfl,c⟩:=Wb d),
λRX=>IK ⟨Ng (Fv z _ _) b,fin⟩,
λhY=>Qe 5,
λvW=>mC (.int 26),
λzU1=>mFn JB (Qb HG (Qb (mC (.str "tells")) (Qb (mC (.str "firsts")) Ql))),
λyQ=>mC (.str "or"),
λvX=>mC (.int 12),
λvY=>P.drop (k+1),
λHs=>.tup zG1,
λvZ=>sO (.int sz),
λyR=>(d::P1).map Zm,
λB8=>sIx items.size 0 lo,
λzU2=>zJ3 h' s=zF0 g/\c={ s with heap:=h',drawn:=d,toks:=tk },
λzU3=>(by obtain⟨x,hx⟩:∃x,N[i]?=sO x:=⟨N[i]'(Np m zR2),Nl _⟩;obtain⟨v,hv,r⟩:=R.get hx),
λtR=>⟨1,0,0,0⟩,
λyS=>List (κ×Value),
λnI=>sO .local,
λlF=>sO .cell,
λnJ=>PE X a ta,
λnK=>.dK kvs,
λzo9=>∀vs H Q E,MQ->vs.length=ps.length,
λw4=>noStar es=true,
λyT=>List (Str×Addr),
λzp0=>(by obtain⟨as,bs,g,f,rfl,rfl,rfl⟩:=b (.z n m la l) rfl),
λzU4=>⟨λ⟨e,g,p⟩=>⟨e,pm.mem_iff.mpr g,p⟩,λ⟨e,g,p⟩=>⟨e,pm.mem_iff.mp g,p⟩⟩,
λzp1=>(x++y).cps.toList=x.cps.toList++y.cps.toList,
λzU5=>["pair","first","second","none","tell","back","either","or","again","end","do","part"],
λzp2=>(by refine Qv (Um ?_) Qo ?_ ?_ IG ?_ ?_ ?_ ?_ ?_;exact rfl),
λyU=>["line","sizes"],
λw6=>PlainL bs ws l,
λtT=>⟨_,rfl,h⟩,
λzU6=>¬(!c.toArray.isEmpty&&Builtin.List.listTooLong (c.toArray.size+a.toArray.size))=true,
λRY c=>if neg then ! E1 else E1,
λRZ=>(by subst J hw hK;obtain⟨m,N,S,hn⟩:=hg),
λqX=>mFn JB Ql,
λw9=>[("none":Str)],
λqY N F=>by rw[N];exact F,
λHt=>Np nP I.ok.above,
λtU=>EP X a b Q,
λjZ=>Qn st,
λS0 c=>(by exact⟨j,wO,c,Cn e p⟩),
λzU7 y=>(if_pos (show(frN w).Nodup/\∀j∈frN w,ns.length<=j from⟨Dw,λj y=>by simp[frN]at y⟩)),
λB9=>Str.ofString " ",
λqZ=>SqT K H a b,
λr4=>K.In s.heap,
λS1=>∀σ H Q,t' σ H Q->uX σ,
λS2=>xs.length+ys.length<=sizeLine,
λzp3 a c y=>(IQ (λz=>a.1 (BP z d))).mpr (c y (Nt _ d)),
λzU8=>.BinOp (zF3 p2 e j) .BitOr (zF3 p3 A f) c,
λzU9=>(by unfold Builtin.«reversed.__next__»;refine Na (DC (a:=(Value.ref it,[])) rfl ?_);try dsimp only),
λS3=>[(Str.ofString "at",V.int n)],
λr6=>mg "set"=nO,
λBa=>O.reverse.map cd,
λr9=>W.ref (i+2),
λS4=>.BoolOp .And (b::rest) pos,
λHu g R=>λb o g e=>(R.2 b g).trans e,
λyV=>binaryOp .Add,
λtV=>Rh X.K R h H,
λBb=>(.int ws.length,h),
λHv=>HT.sIx items.size 0 lo,
λBc=>FZ K mainGlobals x,
λzp4=>∃j,zf7/\j<R1.N/\j∉js/\R1.ρ j=a,
λm7=>ledW w,
λzp5 b=>(by have b:jp5:=by simp[Str.length]),
λzp6=>Cal P w K mg base 1 "is_small" xA Je,
λtW=>sO (.int 40),
λiQ=>x::r,
λS5=>sIx items.size items.size hi,
λHw=>Nj ⟨_,rfl,Nj h⟩,
λyW=>some (.dic kvs),
λtX P q=>(by rcases NQ.mp P with q|q),
λpI n D e=>(by rename_i n D;split at e),
λzV0 s l m=>(by have:=NV.mp s y l;simp only[NL,Dn,bne_iff_ne,beq_iff_eq]at this;rcases this.2 with z|z;·exact absurd m z),
λzp7=>λo=>{ o with dict:=zB5 },
λyX=>(JU d qz ls).wy,
λHx=>Cl++CT,
λjH a b=>SqL K H a b,
λS6 r=>show∃t,u=zO7 from r,
λwA=>t.plain=false,
λwB=>["text","at"],
λBd=>by rw[Wp];omega,
λpJ z=>False.elim z,
λwC=>⟨rfl,rfl⟩,
λpK V=>ns.map V.int,
λzV1=>(cp.map λo=>match o with|none=>nO|gA j=>match σ[j]? with|gA v=>v|none=>nO),
λzp8=>(by obtain⟨i,O⟩:=af x hm;obtain⟨D,t⟩:=aa i x O),
λhZ t u v e x=>(by obtain⟨t,u,v,e⟩:=x),
λBe=>Vis X.env.scope x,
λkT=>(j:Int),
λBf=>sizeLine=16777216,
λS7=>d.length+c.length<=sizeLine,
λBg=>Option (Bool×MH),
λzV2=>if T4 then sO (.nx σ (h.set n (.dic (Qlf kvs k v))))else nO,
λS8=>λj=>x.cps.toList[j]?==sO c,
λHy=>[("tell":Str),"","a"],
λrA=>.str x c,
λj1=>sO v,
λHz=>(by obtain⟨i,j,rfl,rfl,q⟩:=h),
λzp9=>(-(2^64)<i/\i<2^64)\/(-(2^64)<j/\j<2^64),
λzq0=>sO (sO (.builtin "object.__setattr__")),
λHA=>s.heap.objs.size+1,
λyY=>Nu this.symm,
λyZ=>(by exact Qc _;exact Qc _),
λz5=>mC (.int 16),
λS9=>Qb (mC (.ty "tuple")) Ql,
λz6 p=>.tup (CP p),
λm8 a h=>sO (.nx a h),
λzV3=>d.tup u (Rws.cons zB3 (Rws.cons (A1 e g2) Rws.nil)),
λzV4=>[.type "ValueError",.type "Exception",.type "BaseException",.type "object"],
λdU k=>.inl k,
λrB=>.int i t,
λnL=>RelV x v,
λtY a x=>a.names.lookup x,
λnM=>sO .free,
λHB o' t a=>(by obtain⟨o',t⟩:=I.base.there b o e a),
λtZ z d=>by rw[z];exact d,
λz7=>(P.length:Int),
λSa=>Builtin.Tuple.tupleExact _,
λrC=>Option Src,
λzV5=>if c.length+b.length<=sizeLine then sO (.non,h.set n (.lst (c++b)))else nO,
λz9=>zs.map W.str,
λBh=>strKind prog w,
λzV6=>s.heap.objs.size<=h'.objs.size->Q vs { s with heap:=h',drawn:=d,toks:=tk },
λzq1 x f j S d5 D=>(by have x:H' f=nO:=j.fresh S;have d5:=Ei D (·.setIfInBounds 1 (Ad f))),
λzA=>["script","k"],
λrD=>r.map .str,
λSc=>.Compare a [op] [b] pos,
λwD=>λ_ _=>False,
λBi=>Binds K fd ps [],
λwE=>.type "dict",
λBj=>by unfold Rw;rfl,
λBk=>PMI X tg iter mi,
λk7=>(by simp at this),
λzq2=>res (GR ns (a p.1) h.length) p.2 3,
λzq3=>res (GR ns [] h.length) (os'++g) 3,
λzB z=>(by rcases NQ.mp z with z|z),
λBl=>.type "function",
λHC=>mC (.str "again"),
λpL=>(by refine K7 ?_ ?_),
λzq4=>DefAt K mg "read_program" Z7 rO,
λBm=>["pair",x,w,y,z],
λzq5=>.lst (((als p).flatMap bxs).map .str),
λzq6=>(cell+7919*k*k+1)*1357913579135791357,
λwF=>PgOk bs ws P,
λBn=>UZ (d _ Ao),
λzq7=>lS ns Fa (Zx Q) nO nO nO nO nO,
λSe=>fin=Fin.done (Flow.ret v),
λSf=>YD (x.2.map cdL) []=sO [],
λzq8=>NY (Np nP (I.ok.cab x c L t)),
λjI=>Gl X x,
λoN=>.lst a,
λSg=>.Attribute o name apos,
λzC=>!ws.isEmpty,
λzq9 d=>by rw[show n+(j+1)=n+1+j by lia];exact d,
λzD=>ss.map .str,
λHD y=>congrArg List.length y,
λHE=>(als p).flatMap bxs,
λzE=>fs.map .str,
λm9=>u _ _,
λwG B z D Q d g O=>(by obtain⟨B,rfl,z,D,Q⟩:=d.refAt g O),
λBo=>Qel X.K R h d,
λBp=>λL l a h=>?_,
λBq=>nums.map .int,
λlG a=>upd H a o,
λwH x=>X.env.kindOf x,
λSi=>behindInMarks op b=false,
λzr0=>envOfC b a s.heap.objs.size f cd,
λBr s=>s.heap.objs.size+1,
λzF=>A.units<cLine,
λSj=>by show Re;omega,
λzV7=>f.new (mo:=.lst _) (o:=.lst a) n λB i=>⟨a,rfl,zk4 i j⟩,
λzr1=>(by repeat (any_goals (first|assumption|wp_step))),
λu0=>rawInt L,
λHF r=>(by with_reducible refine Fq r ?_),
λHG=>mC (.str "same"),
λHI=>mC (.str "part"),
λSk=>Qao ?_ ?_ ?_ WG Qh ?_ ?_,
λu4=>ZS [3,4],
λzG=>["self","at"],
λHJ x=>(by obtain⟨x,_,rfl⟩:=NI.mp hw),
λzV8 i=>λw hw=>i w ((St.uniq_mem _ _ rfl w).mp ((St.srt_spec _).1.mem_iff.mp hw)),
λSl a=>(by rintro(a|a);·exact .inl a.symm),
λHK=>c%16=10\/c%16=12,
λHL=>c%16=11\/c%16=13,
λpM b=>nm8 (f _ b),
λwI=>.bl false,
λwJ=>model P w,
λrE v b f h=>v pos b s f H _ I h,
λSn g=>.Compare a [op,g] [b,c] pos,
λBs=>(Km++Kp).length,
λBt=>(wt.length:Int),
λBu=>tQ (JU d qz ls),
λSo=>rS uR nO nO nO nO,
λSq=>Str.join xE rows,
λzH f=>(by simp only at f;subst f),
λHM=>List (Tr×Addr×V),
λzr2=>sO { cls:=.none,data:=.fields ps },
λHN=>X.base.get? b=sO o,
λzV9=>(by rw[d]at g;injection g with j _;have:c=b:=by simpa using congrArg Array.toList j),
λk8=>Nq _ e,
λk9=>.str _,
λu5 R b=>After K R w b Q,
λu6=>["script"],
λu7=>pur w=true,
λzW0=>(λb g=>hf b (by simp at g ⊢;rcases g with h|h|h|h<;>simp[h])),
λSr O g=>.Call (.Name "set" O) [e] [] g,
λHP=>Array (Option Nat),
λHQ=>n.natAbs.log2<1920,
λHR=>(Km++Kp).map W.str,
λHS=>nmX d l Cw j,
λBv f e b a=>(by obtain⟨f,e,b⟩:=Vw h;have:=a f),
λzW1=>.lst [.int (mx ns 0),.int (mx ns 1),.int (mx ns 2),.int (mx ns 3)],
λzr3=>(by refine YC u ?_;refine YC t ?_;refine YC p ?_),
λzr4=>.lst ((s.drop 1++[r[0]]).map .str),
λSs=>X.s₀.heap.get? b=sO o,
λrF=>PE X e te,
λrG=>Option MF,
λwK=>OpM X.K r f,
λrJ=>items[i]?,
λSu=>Str.ofString "__next__",
λSv=>InstAt s.heap a oe C od,
λzW2=>(λj=>match l[j]?,m[j]? with|gA x,sO y=>Db x y|_,_=>false),
λpN=>m σ h,
λoO q=>by simp[q],
λfB b o e n y a=>λb o e n y a=>?_,
λzr5=>(by obtain⟨c,a,f⟩:=b.obj n _ (d (.l n) rfl)),
λSw g=>Cal P w K mg base k x ps g,
λzW3=>(h.update a (Obj.putSet es' t')).get? a=sO (Obj.putSet es' t' o),
λzr6=>newExc (.type "StopIteration") [],
λBw=>mC (.str ""),
λzI g=>by rw[Ez,g];rfl,
λzr7=>by simp;exact⟨b _ a,b _ c⟩,
λzJ=>szw [] y.2,
λzr8 v=>by simp[QO,QN,a,b,c,hw,ex,e,d,m,v,Qz],
λzr9 v=>λh=>by simp[QO,QN,a,b,c,hw,ex,e,d,v,Qz],
λrK=>(by push_cast;omega),
λnN=>bkL w,
λBx o=>ObjOk P w H h a o,
λkU U=>(by exact⟨_,U⟩),
λzs0=>w.params.followText "set-order",
λkA V=>Option V,
λzs1=>by show A6+n<cLine;lia,
λHU=>("__debug__":Str),
λzs2=>(x==("__classdict__":Str))=false,
λu8 e=>by rw[e];rfl,
λSx=>((sIx n 0 lo:Nat):Int),
λHV t=>IsTup s.heap t items,
λkB i=>SqL.of i,
λzK=>TabIs es tab,
λSy=>∃o,Qd3 cp σ=o::caps,
λSA=>.type "tuple_iterator",
λBy=>env.frame=sO L,
λBz=>mg "sorted"=nO,
λwL=>(by exact Qf;exact Zf),
λzs3=>ZH Uq Qo ?_ ?_ Fy ?_ ?_ ?_ ?_ ?_,
λHW=>mg "enumerate"=nO,
λHX=>["lines","sizes"],
λBA=>["second",x,y],
λHY x=>decide (x.length<=8),
λBC=>.lst [.int lf],
λSB c=>beq_eq_false_iff_ne.mpr c,
λrL a=>sO (.own a),
λSD=>.UnaryOp .Not a pos,
λSE=>.Subscript o i pos',
λzW4=>.Call (.Attribute (sA p) "__init__" ap) [d,g] [] pos,
λzW5=>[.ExceptHandler (sO (.Name rx rp)) (sO n) (b₀::suite) hpos],
λSG=>Str.ofString "back",
λzW6=>["pair","none","part","end","abcdefghi","a1","","Ab","=","x"],
λBD z h e=>(by rw[z,h]at e;cases e),
λHZ=>binaryOp .Mult,
λwM=>.inr rfl,
λSH e d h=>λ_ _ e=>Jf e λ_ _ d=>h _ _ _ _ d,
λwN=>Rw.str _,
λzs4=>HT.sIx items.size items.size hi,
λSI Q=>(by ·exact⟨_,Q,λv q=>uN q⟩),
λzs5=>x.setIfInBounds 1 (rawInt (-1)),
λId=>mC (.str "\n"),
λzW7=>if(40:Int)<(ns.length:Int)-4 then 40 else(ns.length:Int)-4,
λSJ=>(zj8 a)=false,
λzW8=>∀b ps,H b=sO (.tbl ps)->∃more,H' b=sO (.tbl (ps++more)),
λu9=>.lst ys,
λSK=>[.Subscript o i pos'],
λmB q c=>q.obj n _ c,
λzW9 w=>(by ·rw[YE w];rw[show(d.length==c.length)=false by simp;omega,DL]at this;exact this),
λBE=>by simp;lia,
λzX0=>Na (N1 d rfl (show(fresh 0 0 led).fits 0=true from rfl) ?_),
λBF=>sO (lM t),
λzL s=>AllBare s.gens,
λuA=>PE X b tb,
λzM a=>SqT X.K H a ys,
λzN=>i _ _ _ q,
λwO=>Ext.refl _,
λzs6 M d=>(by have hd:items.drop i=[]:=Dr (mI M);rw[hd]at d),
λzs7 q D m=>Dc _ (Np (q▸I2.lt:D<f.heap.objs.size) m),
λSL=>(by unfold eqW;exact K0 n ws as m),
λuB=>[.dic []],
λwP=>Vj ws=true,
λwQ=>Qek o=true,
λzs8=>!t.plain&&decide (es.size>1),
λzX1=>∀xs d,xs.toList.Perm es.toList->Q xs { s with drawn:=d },
λzO=>XN a C dd,
λzs9=>(by refine K9 ?_ ?_ ?_ ?_ ?_ ?_ ?_;exact rfl),
λuC=>ls.map Qz,
λSN=>.tup [zh1],
λzt0=>(by simp[Qz]at lo;simp[QJ,QN,wl,giv,Qz,lo,b]),
λBG=>.type "range",
λrM n q=>(by rw[n]at q;simp at q),
λoP=>.frz ws,
λmD=>(by rw[this];rfl),
λzX2=>(by show rW f c;have b:Vj (kvs.map (·.2))=true:=p;clear p c;revert b),
λzX3=>Draws.list (A:=X.A.in1) zd4 it l B a.toArray,
λBH=>any_some c.hd,
λmE=>(by refine Vr ?_),
λBI=>["first",x,y],
λIx=>(1:Nat)<=sizeLine,
λzt1 f j=>(by rcases Jl f with⟨j,u,rfl,e⟩|⟨y,u,rfl,e⟩),
λSO=>kvs.length<=sizeLine,
λfJ b=>b σ h,
λuD q h=>(by obtain⟨rfl,q⟩:=h),
λSQ=>Str->Option NameKind,
λiR R a c=>Rst K R a c,
λSR a p=>.nx (a.set i (sO p.1)) p.2,
λSS=>a.length+rest.length,
λzt2 p=>(ps.map λ(p:Nat)=>oR p).toArray,
λzt3=>seqObj "list" vs.toArray 0,
λzX4=>St.drawsT (A:=X.A.in1) zd4 it l B a.toArray,
λzX5=>(by simp at n;rcases n with h|h<;>(rw[h];first|exact Ny _|exact AB)),
λST u L=>(by refine Na (N1 u hd L ?_);dsimp only),
λSU=>(t a (EB g)).trans n,
λIN=>(by exact sc__law_backed.nd),
λmF=>Qe 9,
λzP=>["waiting"],
λrN=>["sign"],
λrO=>["text"],
λIO=>sd (p.drop 1),
λzt4=>Pj\/PF\/x="or",
λzQ=>r.map W.str,
λSV=>decide (1<=x.length),
λzt5=>(Str.ofString " = ").length=3,
λrP=>x++" = ",
λJ'=>rows.map .str,
λzX6 f2 E=>⟨(f2 b E).2.2.2.1,(f2 b E).2.1,(f2 b E).2.2.2.2.1,(f2 b E).2.2.2.2.2⟩,
λrQ=>(by decide +kernel),
λSW=>(by unfold Jt at c;rw[Nz,F7]at c),
λrR c=>(Ej.mp c).1,
λSX=>Str.ofString "do",
λSY=>sO (.str Rj),
λSZ=>Str.ofString "\n",
λS'=>sO (.int An),
λKK=>A.units+n<cLine,
λmG=>H p=nO,
λpO=>g i j,
λiG a σ b c=>Inv X a σ b c,
λpP=>.bl b,
λmH=>X.mg x,
λBJ o i=>.Subscript o i pos,
λBK i j=>.bl (decide (i<j)),
λBL=>start N vs,
λKT=>.seq vs.toArray,
λpQ=>VH st,
λzt6=>compEnvC scope cl C X.env,
λK' c=>[c.heap.objs.size],
λT0 m l=>EqAt A.in1 s m l Pl,
λwR i e=>(by rename_i i;split at e),
λBM=>sO w::caps,
λT1 o g=>SetL prog w s.heap o g led,
λzt7 H1 z0=>(by obtain⟨vs,H1,I1,r,q⟩:=z0;refine⟨I1.kIn,?_⟩),
λLE R=>EndsX K cs E R D r,
λzX7=>(by obtain⟨s,y,rfl⟩:=QhZ O j;rw[Xr]at a;simp only[kst]at a;split at a),
λlH p=>p.map Zm,
λT2 a=>(by show(a σ h).bind _=_;rw[e];rfl),
λzt8=>CY<(r.length:Int)+1+1+1,
λwS=>.type T,
λT3=>ys.length<=sizeLine,
λT4=>kvs.length<sizeLine,
λwT=>.tup ws,
λzX8 d=>(by unfold box;rw[d,Ni];unfold Qla;rw[if_pos Dw];simp only[Vi,Ni,e,frN,IJ,YaN]),
λT5=>Vi (QdY h) ns=sO os,
λzX9=>SetL prog w h' a (ks++[x]) led/\M={ s with heap:=h' },
λT6=>X.mg "enumerate"=nO,
λBN Z=>mf_dict.trans Z,
λzY0=>mFn Xf (Qb (mC (.int 11)) (Qb (mC (.int 13)) Ql)),
λzY1=>sO (.bl (if neg=true then !inW a ys else inW a ys),h),
λT8=>by congr 1;simp;lia,
λBO A=>.lst (A.map Qz),
λnP=>ND e,
λzt9=>X.env.frame=sO X.env.locals,
λBP q' P=>by rw[<-q'];exact P,
λL' j=>(by obtain⟨o,e,c,d⟩:=id j),
λzu0=>.For tg iter body [] pos,
λT9 g=>lastMarks [op,g] [b,c],
λM0=>(by with_unfolding_all rfl),
λM2=>.type "list",
λzR z=>.int z.length,
λpR=>List MO,
λzY2 c=>(λa u e z=>by have:=ze2;rw[z,c]at this;cases this),
λTa=>∀b∈fp,t b=nO,
λzT b=>some (.lst b),
λM3=>(by unfold th at e;cases e),
λj2 q=>NK.mp q,
λM4=>p.take (j+1),
λM5=>uU%(m+1),
λM6=>by size_fits,
λzY3=>(!ltCps y.cps.toList x.cps.toList&&risingS y r)=true,
λzu1 X I D B=>(by unfold noteFrame;simp only[X];refine Na (Es I D B ?_)),
λBQ=>model prog w,
λzY4=>sO (envOfC qual scope s0.heap.objs.size f cd::outer),
λuE=>.int 0,
λM7=>(by exact rfl;refine ZT ?_),
λBR=>(by exact Qf;exact Qc _),
λzU=>(by exact Qd;exact Qd),
λTb=>mC (.str "tell"),
λTc=>(by rcases a with rfl|rfl<;>rfl),
λzY5=>(Str.empty).length+(Str.ofString "row ").length<=100,
λBS=>["same",x,y],
λM8=>xs.map W.str,
λuF j=>(by simp only[Jd]at j),
λzu2=>by simp[bxs];show lL a b,
λM9 n l=>(by obtain⟨n,_,rfl⟩:=NI.mp l),
λBT d c=>(g.ok k x d l c).2,
λMa B=>(by rcases NC.mp B with rfl|z),
λMb=>by simp[pln],
λTd=>rS t nO nO nO nO,
λTe=>sO (.str (Yj l)),
λwU=>KV kvs vs,
λzY6=>o.data=.seq b n/\zH0/\Vals xs b.toList,
λTf i j=>i.cps.toList<j.cps.toList,
λwV=>PM X b mb,
λBU=>(bk m h k).2,
λBV=>⟨a,b,rfl⟩,
λzY7=>sO (sO (.builtin "BaseException.__getattribute__")),
λzY8 o c b=>(by unfold QG Q6;rw[o];exact next _ (λy c=>(NQ.mp c).elim (hz y) (t y)) (by rw[Nw,b,l])),
λzV=>Heap->Prop,
λzW p x=>(by obtain⟨_,_,_,p⟩:=x),
λMc=>Array GenState,
λzu3=>X.env.scope.names.lookup x,
λuG=>.inl rfl,
λzX=>b.length=n,
λTg=>a.length<=sizeLine,
λTh e d c=>s.heap.IsSliceOf e d c .none,
λzY9=>(by ·obtain⟨_,_,_,_,o,_,_,e,ex,_⟩:=sE p d;exact⟨o,e,ex⟩),
λfX q=>λq=>?_,
λnQ=>K.In h,
λMd=>SqL K R.F a xs,
λzZ0=>Paired.mapP c λa b z=>⟨z.1,Rw.mono e _ _ z.2⟩,
λTi=>b<s.heap.objs.size,
λMe x=>Txt.slice x lo hi,
λMf=>List DictEntry,
λzu4=>Rws.th_ok c m ws b us h1 g,
λTj=>X.mg "reversed"=nO,
λzY=>runEnd m i,
λzu5=>Dg ?_ (Zg rfl) (VR rfl),
λzZ1=>by rw[Nr];exact Np (Np m zR2) (Nu hl),
λzZ2=>(by unfold Jt at m;rw[Nx,FG]at m;obtain⟨⟨E,j⟩,B,rfl⟩:=mJ m),
λzu6 D=>by simpa[Array.isEmpty]using D,
λMg=>items.size-1-i,
λnR=>XC K C,
λMh=>Qr U9 Qh ?_ ?_,
λMj=>XY (QbR ?_) ?_,
λzZ=>ch (cdL l),
λA0=>Bkd Wd L M,
λMk=>by simp[ZS,W7],
λzZ3=>(x.map W.str).length+(y.map W.str).length<=sizeLine,
λTk=>.lst (ys.map .str),
λTl g=>λb o g e=>eb b o g e,
λBW=>ps.zip us,
λTm=>(p,w)::P.zip vs,
λzZ4=>(by have f:c.toArray.size+a.toArray.size<=sizeLine:=zH6),
λTn=>fin o n j i C D,
λTo=>(by have hit:=st.2;rw[e]at hit),
λTp d=>w.params.setOrder S d,
λTq=>by simp[c,EB C],
λzZ5=>upd jv2 a (XN a C (sO d)),
λBX=>x∈keptN,
λTs=>by simp[dep,UN],
λTt=>(wl l).map .str,
λTu=>by simp[Jc,okW],
λgA v=>some v,
λiH d=>(by exact d.elim),
λrT I x=>I.cell x c e,
λzZ6=>by rw[I.ok.glob];exact I.mod.glob.keeps I.bk,
λBY a=>SqL X.K H a ys,
λpS y=>I.ok.hd y,
λTv e=>(by exact(show False from e).elim),
λpT j=>st.mono j,
λA1 g p=>Rw.mono g _ _ p,
λMl=>B.sub x c e,
λzu7=>by exact(Fb Ao).symm,
λzZ7=>by first|rfl|(simp only[firstArgMember];rfl),
λzu8=>(s.heap.push _).objs.size,
λBZ j=>(by rcases j with rfl|rfl),
λzZ8=>∃x c,e=((strKind prog w).hash x,P7 c),
λzZ9 l=>St.SetL X.prog X.w l.heap S zR3 (St.ledW X.w),
λMm=>(by exact sc__law_line.nd),
λja0=>Cal P w K mg base 4 "_law_first_bad" CH QX,
λA2=>["none",x],
λzu9 l f c=>(by rintro j w l f h ⟨c,rfl,rfl⟩;rw[Nx]at l),
λMn=>rH (bld es),
λrV=>wds x,
λzv0=>λx a=>nm7_iff.mp (b x a),
λB' H' a=>Inv X pins σ H' a,
λfC b o e a=>λb o e a=>?_,
λrW u r=>(by refine⟨u,r,?_⟩),
λja1=>FnOk X.prog X.w X.K X.mg X.base CX k f fd ps sp,
λC0=>vs[i]?=sO v,
λrX=>W->Bool,
λTw=>a.length<sizeLine,
λTx=>(K w.params).In h,
λTy=>sO (.int (i+j),h),
λTz=>((n-1-i:Nat):Int),
λwW p=>.set es p t,
λrY=>At xs i,
λC1=>mg "int"=nO,
λrZ=>[nO,nO],
λC2=>(_==_)=false,
λC3=>(ZG d l).pl,
λTB=>by unfold YZ;simp,
λTC=>(r.map W.str)[k]?,
λC4=>tw (ZG d l),
λja2=>(by subst g;obtain⟨a,rfl⟩:∃a,r=[a]:=Fl.mp (by simp at l;lia)),
λwX B=>mg_of X G B,
λwY=>.inr x,
λgN c=>List c,
λMp=>sO (.frz o u),
λzv1=>I.base.free b o e n a,
λTD t=>NS _ (NS _ (Yb t e)),
λTF=>.type "object",
λwZ=>FB _ _,
λTH b=>HT.sIx b.length 0 lo,
λoQ=>.int _,
λTJ=>.builtin "len",
λMq=>IntsAre vs ns,
λTK=>λ_ _ _=>False,
λA3=>I.tok _,
λTL=>sO (.int (i*j),h),
λja3 x=>if neg then !(Yh tab x).isSome else(Yh tab x).isSome,
λja4=>λp q=>Rw K R p (.ref q.2.1)/\nrm p=sO q.1,
λzv2=>λh' tk hk=>⟨rfl,?_⟩,
λzv3=>⟨[.type "set",a],[]⟩,
λzv4=>SetTable.below t.place c,
λMr=>Sb.Up t.place,
λzv5=>λq=>.tup [.int q.2,q.1],
λC5 e2=>mf_cls.trans e2,
λja5=>Value.builtin "BaseException.__getattribute__",
λA4=>CXr P w,
λA5 i c b=>(by obtain⟨i,c⟩:=N8.mp b),
λzv6 l=>YC (G9 (QcH (e _) l) rfl) ?_,
λTM y a=>I.base.keep b o e n y a,
λTN y a=>I.base.slot b o e n y a,
λja6=>if([]:List Keyword).isEmpty then 0 else 1,
λja7=>(by rcases h with(h|⟨o,h⟩)|h;·exact .inl (.inl (e _ _ h))),
λja8=>.ListComp C [⟨target,iter,u,0⟩] o pos,
λTQ Z=>(by simp only at Z hd;subst Z hd),
λja9=>λ_ _ _ _ _ st h=>let⟨_,g⟩:=st.2.1;Iv g h,
λTR b=>(by unfold clsIn at b;split at b),
λzv7=>⟨by simp[giv],ne 1 b⟩,
λgY x=>.inr x,
λzv8 e=>(by exact(beq_eq_false_iff_ne.mpr e).symm),
λA6=>A.units+1,
λpU=>sO a,
λlJ j=>(by simpa using j),
λzv9=>if j>i then j else i,
λzw0=>if j<i then j else i,
λzw1 b=>HT.sIx b.length b.length hi,
λMs=>.bool true,
λMt=>K w.params,
λA7=>.dict #[],
λTU=>by rw[d.isEmpty],
λzw2=>N.length=ps.length+more,
λzw3=>(by subst e;obtain⟨_,o,e,c,d⟩:=st),
λzw4=>Zc fin mi cp b mt me,
λTV=>by unfold K5;rfl,
λjb0=>(by rw[Nr]at this;rw[show as.length=f.length by lia];exact this),
λC6=>List Str,
λC7 h z=>(by rcases NC.mp h with z|z),
λzw5=>List.range ns.length,
λTW=>by unfold ZP;rfl,
λzw6=>mi σ h=sO (items,nO,h),
λTY=>A.in1.handled=nO,
λA8=>i<xs.size,
λuH=>Ea ..,
λTZ=>Gl X "enumerate",
λT'=>.type "reversed",
λjb1=>Na (DC (a:=()) (by first|rfl|kernel_rfl) ?_),
λjb2=>EE slot_rev_next hit.typeIs Yk ?_ (Y0 _),
λMu=>(sg c).length,
λUf=>mg "reversed"=nO,
λxA=>["size"],
λpV=>Qz l,
λA9=>sO (Zm x),
λjb3 a e d f c=>(by rcases WX (x:=x)with⟨rfl,a⟩|⟨rfl,a⟩|⟨rfl,a⟩|⟨rfl,a⟩|⟨⟨e,d,f,c⟩,a⟩),
λzw7=>(by obtain⟨_,_,rfl⟩:=NI.mp hw;rfl),
λzw8=>QG _ (QG _ (QG _ _)),
λs9 x=>Sum.inr x,
λjb4=>Q (hN w n k) { s with toks:=s.toks+dN n k },
λsA a=>.Name x a,
λjb5=>y.length<=sizeLine/\k=((y.length:Int) != 0),
λjb6=>by have:=r.un;show A.units+3+16*k+200<_;lia,
λC8 h=>(by rw[Rws.cons_iff]at h),
λU'=>.ref h.length,
λsB b c e=>(by rename_i b c;cases e),
λjb7=>by show Rc;unfold eqW;exact Ua ws p,
λjb8=>by show Rc;unfold pur;exact Kq ws p,
λCa C=>N3 _ _ (EB C),
λV0=>mC (.int 360),
λCb=>b[i]?=sO x,
λpW=>(by refine Na ?_),
λV2 d=>(by obtain⟨ad,g,rfl,p,_⟩:=d),
λzw9=>X.stack=X.env::X.outer,
λpX=>c=true,
λMv=>j<1073741824,
λCc=>Room k X.A,
λzx0=>sIx items.size 0 lo,
λCe=>Option Nat,
λjb9=>m (a.map sO++List.replicate more nO) h,
λMw=>PMA X [a] ms,
λjc0 B=>(by have B:X.A.in1.units+40<cLine:=by show zg0+40<cLine;lia),
λMx y=>absurd y (Fh _),
λMz=>λa o ha=>?_,
λuI=>sO o::r,
λCf=>Vj us=true,
λzx1=>items.length<=sizeLine,
λzx2 j=>I1.fpOk j (I1.hok.fresh j),
λzx3=>.Tuple elts kk tpos,
λzx4 l=>by rw[<-NR,l.length_eq,NR],
λzx5=>(by simp only[NC,Ey,or_false,not_or]),
λoR p=>rawInt p,
λzx6 a=>λb a=>by simp at a;simp[a],
λCg=>ss.Perm ks,
λzx7=>s.heap.IsTuple l items,
λjc1=>(by have:=hu;rw[Dx,hv]at this;exact Eo this),
λzx8=>(by show(x.cps++y.cps).toList=_;simp),
λCi=>(by exact Qf;exact Qf),
λjc2=>["parts","names","number","part","behind"],
λMB=>QfW ?_ ?_ ?_,
λuJ=>List Cd,
λMC=>⟨_,_,rfl⟩,
λpY=>[Zb p],
λjc3=>Jk [Qz l] h=sO (.lst ((bxs l).map .str),h),
λMD=>bs.length<=5,
λMJ=>ws.length<=5,
λCj=>sO (Jy bs),
λCk=>BkP Wd R Q,
λzx9=>Str.ofString "tell",
λuK=>List Ev,
λzy0 h=>Er (by simp;exact N7.mp h),
λCl=>es.map evR,
λV3=>fs.length<=1000,
λV4 H'=>HOk X.prog X.w H' h',
λjJ b u e=>λb u e=>?_,
λuL=>(m:Int),
λV'=>PI X tg iter wi,
λjc4=>(envOfC j d s.heap.objs.size f cd).kindOf,
λkW R1=>Ext R R1,
λWF=>drf h 40 a=sO d,
λWP=>bs.getD i false,
λjc5 u=>(by unfold box;rw[s,Ni];unfold Qla;rw[if_pos hd,u];simp only[Ni,e]),
λW'=>Gl X "reversed",
λXV=>sortedS ss=true,
λX'=>sizeAbove k.val,
λYP Z9=>Z9 ?_ ?_ ?_ ?_ ?_ ?_,
λY'=>Qr Qcw Qh ?_ ?_,
λZB=>["name","body"],
λCm=>y="either",
λjc6=>b.cps.toList.length+1+a.cps.toList.length,
λxB e=>λ_ _ e=>e,
λlK e r=>(by subst e;cases r),
λZ' a=>starEach [a] X.env,
λjc7=>by have:=r.dp;show A.depth+1+3*k+5<_;lia,
λjc8 o i b=>∀o i,subscripted b false o i=operate [o,i] (getItem o i),
λAa=>s++[y],
λuM=>L++[l],
λzy1 e=>by rw[e];exact True.intro,
λnU R' w=>Rw K R' w v,
λMK=>(by unfold Rws at h ⊢),
λAc b=>Rh K R' h b,
λzy2 q e=>by rw[q.len];exact(Nh.mp e).1,
λML=>mFn JB ms,
λjc9=>λ_ _ _ q=>Gk (Qdp q) λ_ _ c=>j _ _ _ c,
λzy3 I=>(by rcases NC.mp (I.stkSub _ z)with q|q),
λxD w=>sO (f w,h),
λza0=>.Name x pos',
λza1 g A x=>(by obtain⟨ad,g,e,A,q⟩:=x;subst e),
λjd0=>(Obj.putSet es' t' o).data=.set es' b t',
λAd l=>Value.ref l,
λzy4=>below.go xs j f lo hi,
λjd1=>sO Builtin.«dict_keyiterator.__iter__»,
λzy5=>List.range es.size,
λjd2 g=>(by unfold isType loadHead;exact Na (Oy (k _ _ (X _ _ g)) (Nj q))),
λjd3=>(I1.base.there a o z (by intro y;cases y)),
λsC=>Qe 8,
λMN=>(by exact Qc _;exact Zf),
λzy6=>ZU (mC (.bl true)),
λza2=>(by exact sc__law_is_row.nd),
λjd4=>.tup ([c6,c3,c0,c5,c2,c4].map V.ref),
λjd5=>decide (z.bk<=500)&&decide (z.dp<=6),
λza3=>by simp[dep],
λsD=>sO 1,
λzy7=>x%2305843009213693951,
λza4=>by simp[scr],
λjd6=>by have:=g.wd;simp at this ⊢;omega,
λzy8=>(by obtain⟨a,b,c⟩:=QmB (l:=l) h),
λjd7=>["NAME","=","pair","NAME","NAME","NAME"],
λza5 g m=>OpR X (compareOp g) m,
λjd8=>y.size<=sizeLine/\k=((y.size:Int) != 0),
λsE p l=>I.hok p _ l,
λjd9=>DQ name d h body a U kV C pm X g ct,
λje0 b=>EE Ep b.typeIs O0 ?_ (args_tuple_getitem _ _),
λza6 B E=>by rw[Nr,<-B];exact E,
λCn e a=>Rw.mono e _ _ a,
λza7=>⟨o,e _ b,r⟩,
λje1=>∀i,i<n->(Ow o (sj m h i)).isSome=true,
λje2 f=>(by rintro⟨b,u⟩ f ⟨_,i,rfl⟩;dsimp only at i;subst i),
λje3=>λb c=>by simp at c;rw[c];exact new,
λje4=>Value.builtin "object.__getattribute__",
λje5=>["pair","first","second","same","none"],
λje6=>Qt (by assumption) ?_ ?_ ?_ ?_ ?_ ?_ ?_,
λje7=>DefAt K mg "_law_first_bad" Jb CH,
λje8=>[.lst ((St.srt zR3).map .str)],
λxE=>sg 10,
λuN q=>(nomatch q),
λMP=>Value->Prop,
λh8 o c=>RelV o c,
λAe=>H b=sO u,
λzy9 c=>RelO (fs.lookup f) (c f),
λzz0 r i=>(by subst z;rw[r]at i;exact i),
λCo e=>λ_ _ _ e=>e,
λzz1=>by simpa using I.len,
λza8=>SqL X.K H a xs,
λza9=>SqT X.K H a xs,
λzz2=>λ_ _ q=>q.unwish,
λzb0=>Qeo X pins H b,
λje9=>.Call (.Name "range" p) [a] [] pos,
λMQ=>sp vs H Q E,
λMR=>⟨us,[]⟩,
λMS=>i<xs.length,
λzz3=>(d.toArray.size:Int),
λzb1=>Slot T name id,
λzb2=>(e::es).length,
λCp r=>.cons r .nil,
λzz4=>d.params.defaults=[],
λzb3=>SqT K R.F a xs,
λCq R=>Ends K R D r,
λAf=>PM X e m,
λMU=>PMA X es ms,
λMV=>Qaz e=false,
λzz5 l=>Heap.SameBut it s.heap l,
λMW e=>Rws X.K R e xs,
λMY d=>Rws X.K R d ys,
λpZ v=>(Zp v).1,
λMZ x y=>sO (.bl (x==y),h),
λjf0=>d.put f ⟨_,rfl,Rws.append i g⟩,
λM' a=>DicR K R kvs a,
λjf1=>.Call (.Name "zip" p) [a,b] [] pos,
λNo=>(EJ _).symm,
λzz6=>.type "set_iterator",
λjf2=>W.go L kk pos i T _ _ _ f λai G D=>?_,
λzz7=>λs=>s.cps.toList,
λAg=>XC X.K C,
λjf3=>∀a,PSs (X.hd a) (b₀::suite) (ts a),
λzb4=>[nO,sO 3,sO 0],
λNE=>mg "max"=nO,
λjf4=>(by refine Z6 ?_;refine Qbw YQ Qh YQ Qh ?_ ?_ ?_;exact Qf),
λp' a=>(by exact Vp a rfl),
λN'=>mg "zip"=nO,
λAh=>["word"],
λsF=>.int 2,
λzb5=>[sO (.tup us)],
λzz8=>(Yu n sz).cps.toList,
λzz9=>(JU [] qz x.2).dp<=D,
λzb6=>Bkd Wd x.2 y.2,
λjf5 p D=>(by have p:=λh=>QjV (l:=l) (h:=h) g;have D:=λh=>Qc7 (l:=l) (h:=h) g),
λzA0=>by simp[Jc,okW,n],
λO'=>TX n a σ h,
λjf6=>p.rec .nil λr _ h=>.cons (f _ _ r) h,
λmI z=>N7.mp z,
λzb7=>tOp r ta tb,
λmJ s=>Nf.mp s,
λCr=>Yf x r2 G,
λzb8=>Y3 ws lo hi,
λjf7=>⟨sz,B,A,s1,s2,p1.isList,p2.isList⟩,
λzb9=>Fm r s.heap,
λjf8=>(by obtain⟨o,U,ab,q⟩:=F;exact⟨o,D T o ae U,ab,q⟩),
λzc0 l=>by rw[sz];exact l,
λxF=>fre c y,
λjf9=>λb c=>by simp at c;rw[c];exact v,
λzc1=>mC (.int 7),
λsG=>(by refine VT ?_),
λjg0=>(by exact Qc _;refine Qbv (Uu ?_ ?_ ?_ ?_) ?_;exact Qc _),
λxG=>W.str x,
λxH=>dcn x.2,
λCs=>("=":Str),
λiS i=>.inl i,
λuO e=>(by exact nomatch e),
λP0=>λ_ q=>q,
λzA1=>QE (f b _ q λz=>z),
λzA2=>s.heap.objs.size<=T,
λP2=>I.wish _,
λzA3=>.bl (decide (i<=j)),
λzA4=>us.length=ps.length,
λzA5=>λb ob q=>Nq _ q,
λzA6=>λf vs=>YaM f vs,
λzA7=>h[n]?=sO (.dct kvs),
λzA8=>cp.length=Nb.length,
λuP=>E9 _,
λzc2 d l=>SqL.of (d.sub _ _ l),
λAi a=>(by simp at a;subst a),
λzA9=>as.length=bs.length,
λzB0=>compareOp .NotIn,
λjg1=>by rw[<-i.length,<-g.length];exact B,
λCt=>R1.ρ j,
λjg2=>(by rw[show k+1+i=k+(i+1) by exact DR _ _ _];exact this),
λjg3=>(by show AA o a;unfold Zc;rw[hi,Ni];simp only[a]),
λzB1=>ad<c.heap.objs.size,
λzB2=>putSet_of es' t' hd,
λjg4 s=>SetL prog w s.heap S (uniq (l.take i)) led,
λuQ=>Eg _,
λzB3=>by unfold Rw;rfl,
λP3=>sj m h n,
λzB4=>St.uniq_mem _ _ rfl,
λjg5=>(clsIn K C).any λcd=>QhE cd.mro,
λzB5=>sO s.heap.objs.size,
λP4=>ZS [0,1],
λP5=>λ_=>rfl,
λzB6=>zS ls n qz nO nO,
λzc3=>decide (x∈l),
λzc4 L=>YD (L.map cdL) [],
λP6=>b.map Qz,
λzB7=>b.map Qz++[Qz l],
λuR=>YY Q,
λzc5=>some (.lst _),
λjg6 c=>λd H Q=>t d H λx e=>∃c,x=.bl c/\Q c e,
λzB8=>⟨a,b,I.unwish,q⟩,
λzc6=>(hi-lo).toNat,
λjg7=>(by obtain⟨u,l,rfl,⟨t,rfl⟩,⟨o,rfl⟩⟩:=Qaw r),
λjg8=>⟨"tuple",_,Ep.lookup,j.typeIs,?_⟩,
λzc7=>f p.1 q.1 q.2,
λjg9 s l=>(by have:=NV.mp s y l;simp only[NL,bne_iff_ne]at this;exact this.1),
λjh0=>How w S T h es ep t vs i (.int c 0),
λzc8=>X.mg "set"=nO,
λjh1=>λb o d e=>D b o d (hk b o d e),
λjh2=>(by refine Q1 ?_;refine Qgn NH IS Oz Qgw ?_;exact Qc _),
λjh3=>(by unfold inW at a ⊢;rw[NA,Dk,a];show((y==x) ||_)=_),
λjh4=>decide (a.cps.toList<=b.cps.toList),
λzc9=>P.length-k<=n,
λzd0=>tw (Zk P 0 x),
λzd1=>(Zx p).length,
λzd2=>TXS k ms σ h,
λP7 t=>Value.str x t,
λP8=>A[i]?=sO x,
λsH=>P[k]?=sO x,
λP9 k v=>IsT s.heap n k v,
λCu=>a σ h,
λCv=>t σ h,
λPa=>X.pn++pins,
λzB9=>eval iter X.env,
λzC0=>∀b∈O,z b=nO,
λzC1=>z.length<=sizeLine,
λzC2 A=>(by exact⟨x::g,A,I2,.cons l j,m⟩),
λPb H s=>HOk P w H s.heap,
λzC3=>s.heap.objs.size+1,
λzC4=>a.names.lookup y.1,
λAj=>KB st,
λuS=>R.ρ n,
λzC5=>Rws.mono e ws xs d,
λxI=>(by exact Rws.nil),
λjh5=>λa h=>(b a h).bind λp=>f p.1 p.2,
λPc=>PMT X a ta,
λzC6=>Binds X.K fd ps [],
λPd=>Option MSt,
λsI a=>SqL.of a,
λzC7=>(by obtain⟨_,_,rfl,_⟩:=r;rfl),
λjh6=>op_add_str.or (op_catA.or QjY),
λzd3=>λ_ _=>rfl,
λjh7=>a.length+(rest.length+1)<=sizeLine,
λPe=>sO (as,ns),
λPf i l=>N8.mpr (iI i l),
λzC8=>by unfold eqW;simp,
λzC9=>Wf 0 ws=sO (ws,[]),
λuT=>.ref 0,
λzD0=>Nat->MSt->MH->Prop,
λPg=>body σ1 h,
λzd4=>I.ok.hd hc,
λjh8=>rule "set.scan.the-table-gave-way",
λuU=>bits h,
λsJ i=>.int i 0,
λPh e=>Nq _ (Nq _ e),
λzD1 f a=>∀k,k∈us↔k∈f\/k∈a,
λzD2 c=>by unfold notCls;rw[c],
λjh9=>(by obtain⟨_,_,_,_,ob,_,_,e,_⟩:=x;exact⟨ob,e⟩),
λzd5=>.Name fx p,
λzD3=>Qcj ?_ ?_ ?_ ?_ ?_,
λzD4=>(p.map Zm).reverse,
λuV=>Nm x.1,
λji0=>congrArg (λs:Str=>s.cps.toList) e,
λji1=>by rw[Yy,e];simp only[Nw,NX];omega,
λCw=>n/9360,
λPi=>sO (Jy ws),
λzD5=>λx=>1<=x/\x<=5,
λji2=>Jx (xs:=(s++[y]).map W.str) (n:=0),
λzD6=>sO (.str (Yj l),h),
λzD7=>by simpa using h.2,
λzD8=>by simp[Vj,pur],
λuW=>Row7 x,
λzd6 l=>by simp at l;lia,
λji3=>(Str.ofString "a =9Az").cps.toList,
λAk Q=>Xg (Q _ _),
λCy r=>(by exact⟨_,rfl,r⟩),
λxJ b=>Vals xs b,
λxK t=>t x y H Q,
λmK b j=>λb j=>?_,
λCz s=>tn i s.heap,
λsK r=>(by rw[<-r.length]),
λji4=>(by unfold getItem;try with_reducible refine ER ?_),
λji5=>BindsTo s fd ⟨[u],[]⟩ [(x,u)],
λzd7=>Or.inr rfl,
λCA h=>(by unfold Rw at h ⊢),
λzD9 a c=>Kf items src b body r a c,
λji6=>findBy Value.isStrOf es.toArray k,
λji7=>min f.toArray.size d.toArray.size,
λzd8 B=>(by ·exact⟨_,B,trivial⟩),
λCB s=>s.map W.str,
λji8=>Q () { s with heap:=h',drawn:=d },
λji9=>mC (.int 2305843009213693951),
λPj=>x="either",
λjj0=>St.uniq ((als p).flatMap bxs),
λCC a=>NW _ (D0 a),
λCD k=>nmX b a q k,
λxL e=>IX e σ h,
λxM=>sO w,
λzE0 I=>λb o e=>(I.bs b o e).1,
λjj1=>(by subst J;rw[hi]at l;cases l;rw[EA G]at D;cases D),
λjj2=>.BoolOp .Or (a::b::rest) pos,
λAl=>.type n,
λAm=>(a:Int),
λAn=>(0:Nat),
λzE1=>compareOp .LtE,
λjj3=>λp n k=>⟨_,H,I.kept k,?_,q⟩,
λjj4=>envOfC b a s.heap.objs.size f cd,
λjj5=>λf j t e=>fin c g i f j t e,
λzd9=>PlainAttrs T,
λze0=>ns.length<=n,
λzE2 t=>base.Ns mainGlobals t,
λze1=>⟨[a],[]⟩,
λzE3=>s.length=r.length,
λze2=>q.gsub a u e,
λxN=>mC w,
λPk=>Qb m ms,
λjj6=>items.drop i=w::items.drop (i+1),
λCF=>.int 0 0,
λPl=>eqW a b,
λzE4=>sO (.str (x++y),h),
λCG=>FJ X G a,
λzE5=>(x,NameKind.free),
λAo=>‹_›,
λAp=>.lst us,
λjj7=>(by subst hP hw hK;obtain⟨N,xs,ys,J,G,aa,Z⟩:=hg),
λzE6 g=>λb o g e=>hk b o g e,
λzE7=>(by obtain⟨ad,l,rfl,i,s⟩:=f),
λzE8=>⟨rfl,rfl,rfl⟩,
λjj8=>λh' k=>z h' λb l a e=>k b l ?_,
λzE9=>es.size<=sizeLine,
λzF0 r=>sO (lsO vs.toArray r),
λzF1=>.type "enumerate",
λzF2 a=>N2 _ a (EX (Ei hd _)),
λPm=>turns m,
λzF3 p2 e i=>.Call (.Name "set" p2) [e] [] i,
λzF4 i=>(by ·exact⟨o,(ot b i).trans e⟩),
λPn=>.ref fI,
λzF5 c=>ne_true_of_eq_false c,
λCH=>["rows"],
λCI=>(by exact sc_law.nd),
λzF6=>by unfold pur;rfl,
λzF7=>by unfold Zm;simp,
λzF8=>p.length-(j+1),
λzF9 b=>by unfold Qhb;simp[b],
λzG0 m t e c a=>(by obtain⟨m,t,e,c,rfl,rfl⟩:=a;rw[Nz,NU,EM]at e),
λzG1=>keptN.map .str,
λPo=>Yu n sz,
λze3=>Wd.length<=5,
λze4=>by simp[bld],
λzG2=>(evs Q).take j,
λjj9=>[sO (.lst ((x::d).map .str)),nO],
λjk0=>.str (Str.ofString "a =9Az"),
λzG3 D t5 y=>(by rcases FT D with D|rfl;·exact t5 y D),
λze5 V=>List (Option V),
λze6=>j b o e a,
λze7 k=>.Tuple es k pos,
λze8=>λx=>!x.1,
λjk1=>Ext R { R with F:=upd R.F p o },
λze9 W=>Option (List W),
λzG4=>sO (.int (i/j),h),
λzG5=>sO (.int (i%j),h),
λjk2 σ=>if p.1=true then a σ p.2 else b σ p.2,
λjk3=>sO (.non,h.set n (.lst (xs++ys))),
λjk4 E=>by rw[Nr,E];show ss.length+1<4096;lia,
λzf0=>(bk m h 0).1,
λjk5=>o.setIfInBounds j (sO a.length),
λjk6=>.Attribute o "replace" apos,
λzf1=>XN a C nO,
λjk7=>["row","ahead","words","forms"],
λzf2=>(by ·simp[ZD,QN,b,a,ch]),
λjk8=>YD ((ls.take (n+1)).map cdL) [],
λjk9=>(by rw[d]at a;have j:O≠[]:=by rintro rfl;cases a),
λjl0=>sO (W.lst ((Zj 0 m).map g),h)=_,
λzf3=>(by simp[Zz,QN,Qz,c,d,e]),
λzf4=>L.map QdR,
λzG6=>(QhM h H).get? b,
λAq a=>(by refine⟨a,?_⟩),
λPp x=>env.kindOf x,
λzG7 x=>X.env.cells.lookup x,
λxO=>b∉ch,
λzG8=>I.freeC x c e,
λjl1=>by rw[I.len];exact(Nh.mp hi).1,
λPq=>Sem Value,
λzG9 e=>isTrue e X.env whole,
λPr=>PT X a tA,
λzH0=>b.size<=sizeLine,
λPs H=>SqL K H a xs,
λxP=>l=x::r,
λzH1 a=>h.IsTupleIter it a i,
λjl2 U n m=>⟨rfl,λys U=>by rw[I.tuple_inj U n];exact m⟩,
λzH2=>compareOp .Lt,
λzH3=>compareOp .Is,
λzH4 u r=>show u=Value.none from r,
λPu=>PA X es t,
λzH5 d=>HT.sIx d.length 0 lo,
λzH6=>by rw[Nr,Nr];lia,
λxQ=>.ref _,
λzH7=>i+n=items.length,
λzH8=>cl.lookup x=sO c,
λPv=>T=="list",
λPx=>T=="dict",
λPy=>PM X o mo,
λPz t=>sO (.bl t,h),
λzH9=>FR X.w.params es,
λzf5 O=>(by obtain⟨x,l⟩:=ah i O),
λPB=>Array Nat,
λzI0=>box frN m args h,
λjl3=>(by rw[Et,r.length]at c;exact c),
λjl4=>(Obj.putSet es' t' o).ExactSet,
λzf6=>(sq m h n).j,
λzI1=>Ip (LC _ (Fx _)),
λjl5=>Value.type "StopIteration",
λjl6=>unsupported "internal:collect",
λjl7 b=>.lst ((St.srt (St.uniq b)).map .str),
λjl8=>∃old,IsEnum h e it i old,
λjl9=>(by obtain⟨_,⟨old,g⟩,⟨Z,M,c1,d1⟩⟩:=st),
λjm0=>λT vals h' tk J hT F f hk=>?_,
λjm1 i=>(by rcases D6 i (ps m h k)with z|z;·exact j i z),
λjm2=>λv s3 h3=>Na (Fe (Nj h3)),
λPC=>[nO,sO 0],
λzI2=>mC (.str "a"),
λzI3=>mC (.str "z"),
λPD=>[nO,sO 2],
λzI4 u=>W6 rfl u rfl rfl rfl,
λzI5=>∀y∈O,Op y,
λxS=>w∈Wd,
λzI6=>(by intro w hw;unfold Zj at hw),
λjm3=>(by rw[Ek]at b;have:=c k b;simpa[g]using this),
λjm4=>(wt.reverse.take j).flatMap clo,
λjm5=>x.2.take (j+1)=x.2.take j++[l],
λzI7=>(by have:=VC (xs:=a);simp[dep]),
λjm6 h=>(by apply DU;intro i;rw[Nx,Nx];by_cases h:i<Q.length),
λzI8=>(by obtain⟨a,rfl,n⟩:=one b),
λjm7=>.Constant (.bool b) j pos,
λjm8=>.BoolOp .Or (b::rest) pos,
λjm9=>V->V->V->Hp->(Hp->Prop)->Prop,
λCJ=>x::es,
λzf7=>A.length<=j,
λjn0 U m l=>⟨rfl,λys U=>by rw[I.list_inj U m];exact l⟩,
λCK=>J _ _,
λzf8=>Option Expr,
λjn2=>by rw[Nr];exact r.length.symm,
λjn3=>by rw[m];exact⟨_,z,q⟩,
λzf9=>n<=sizeLine,
λzg0=>X.A.units+1,
λjn4=>∀D σ H,t' D σ H->t D σ H,
λCL=>Qki q,
λzg1=>sO (.non,h),
λzg2=>y.2≠.cell,
λzg3=>QdG X.K fin,
λjn5=>strKind_is X.prog X.w k t,
λzg4=>by simp;lia,
λzg5=>(T i x l).2,
λzg6=>(X i x l).1,
λjn6=>unsupported "set:maker-not-led",
λzg7=>Ow o j=sO k,
λjn7=>(List.replicate k xs).flatten,
λzg8=>Sm Z S h h',
λjn8 p=>(Looks.ld (part:=_) p).andThen .now,
λjn9=>Option ((W×MH) ⊕ (Ex×MH)),
λzg9=>mg "str"=nO,
λjo0=>GTab w K mg "NAMES_BEHIND" Qy,
λjo1=>sO (Str.ofString (toString n)),
λCM=>Jy xs,
λzh0=>x.length<=8,
λPF=>x="again",
λjo2=>by unfold X7;simp;exact i,
λzh1=>.str "none",
λjo3=>mC (.int ((k+1:Nat):Int)),
λzh2=>0<bs.length,
λzh3=>0<ws.length,
λzh4=>sO (Qz l,h),
λjo4 y=>(by have:(clo y).length<=2:=by unfold clo;split<;>simp),
λjo5=>show k+1+(i-(k+1))=i by omega,
λzh5=>mx ns 0/8%6,
λjo6=>show Mo[0]?=sO _ from rfl,
λjo7=>(Str.ofString "part ").length,
λAr i=>Sum.inl i,
λoS e l=>(by cases e;cases l),
λjo8=>Na (Od (Nj ⟨_,_,rfl,h⟩)),
λjo9=>(by obtain⟨_,_,_,_,o,_,_,e,_⟩:=x;exact ND e),
λPH j=>(by rcases j with rfl|j),
λzI9 u=>storeName X.env x u,
λzJ0=>⟨v,H,I,r,h⟩,
λAs i=>I1.list i,
λjp0=>(assignEach es X.env).length,
λzJ1=>.type "dict",
λjp1=>A.depth+3*k+5<recursionLimit,
λAu=>b::r,
λzh6=>QgF te t,
λzJ2=>.List es pos,
λPJ=>D2 _ _,
λzJ3 f s=>f.get? s.heap.objs.size,
λzJ4=>QhM c.heap H,
λzJ5=>(by obtain⟨a,xs,d,c,b⟩:=r),
λPK h=>(by rw[Rws.nil_iff]at h),
λCN R=>Ro K R o u,
λzJ6=>(by rcases below n b with b|b),
λzJ7=>b w σ h=sO σ1,
λzJ8=>items.drop i,
λzJ9 M=>⟨items[i],Nl M⟩,
λzK0 d=>s.heap.IsTuple ad d,
λzK1=>ys.map V.str,
λPN=>Nt _ z,
λzh7=>xs.map f,
λzK2 r=>P (n+r.length) c h',
λzK3=>((i+1:Nat):Int),
λjp2=>((d.toArray.size:Nat):Int)-1,
λzh8=>sq m h n,
λPP=>atP es,
λjp3=>Array.replicate (m+1) nO,
λjp4=>L.own p.1 p.2 ((e p).mp a).2,
λjp5=>x.length=x.cps.toList.length,
λAv b=>.fields b,
λzK4=>vs[1]?=sO .none,
λzK5=>mC (.int 40),
λAw=>ZK 2,
λzK6=>mC (.int 10),
λzK7=>Qs Qb7 Qh ?_ ?_,
λCO g=>(by exact rfl;exact g),
λCP p=>p.2.map Qz,
λzK8=>(JU d qz ls).pl,
λzK9=>absurd q (Oc _),
λzL0 b=>by simp;exact b _ a,
λzL1=>by simp;exact b,
λzL2=>decide (c<=122),
λzL3=>(bs.length:Nat),
λzh9=>.str abc,
λzL4=>keptN.map W.str,
λzL5=>(ls.length:Int),
λzL6=>P.drop (0+1),
λCQ P=>GP bs ws P,
λjp6=>show((1:Nat):Int)=1 from rfl,
λjp7=>["NAME","=","second","NAME"],
λCS n=>xmB K n nO,
λzi0 t Q=>wpAny M A t Q E s,
λCT=>x::rest,
λzL7 a A H s g B=>Inv X a A H { s with heap:=g,toks:=B },
λjp8 t=>λhn b t=>⟨hn b t,(f2 b t).2⟩,
λjp9=>c.length+a.length<=sizeLine,
λjq0 e b r=>(by obtain⟨t,e⟩:=(show∃t,u=Value.float b t from r);cases e),
λzL8=>.ins C dx fs,
λjq1=>λv d=>(ES.mp b).1 (L5 d).1,
λjq2=>sO ⟨oc,od,.func fd,osl⟩,
λjq3=>.inl (.inr ⟨o,e _ _ h⟩),
λPQ=>R.ρ x,
λzL9=>⟨_,p.isList⟩,
λjq4=>(by rw[this,Qah (n+1) l _ x];exact EqAt.same _),
λCU=>NT.mp h,
λCV=>ms σ h,
λjq5=>by unfold wEq;simp[drf,eqW],
λjq6=>by unfold wNe;simp[drf,eqW],
λjq7=>Rws.th_ok m r _ _ c g a,
λCW=>pure (),
λCY=>(2:Int),
λjq8 D=>(by simp only[EW];refine Na (Ia D rfl ?_);dsimp only),
λjq9=>(apos.endLine==c.line)=true,
λjr0=>Un (frs l) [] H H' G s.heap,
λzi1 σ h=>sO (.f (.nx σ h)),
λjr1=>Glob K mg "MOST_LETTERS" Zt,
λxT=>(by refine Wl ?_),
λjr2 h1=>(by rcases Fz.mp z with q|⟨_,q⟩;·exact EU h1 q),
λjr3=>YD ((ls.take n).map cdL) [],
λjr4=>decide ((us.length:Int)<=5),
λCZ=>n/64%10,
λzM0=>(JU [] qz L).lv,
λjr5=>(Str.join (sg k) zs).length,
λjr6=>W.tup [.str x.1,.ref (i+2)],
λjr7=>["NAME","=","first","NAME"],
λjr8=>by unfold Qi;rw[p,Ni,q];rfl,
λPR=>.int i t,
λPU=>.str x c,
λPV=>.inr rfl,
λiI j y=>⟨j,y⟩,
λPY=>H a=sO o,
λzM1=>h.objs.size<=a,
λPZ m=>QE (Zo e m),
λxU k=>⟨k,?_⟩,
λAx=>sO p.2,
λlL G F=>(by exact⟨G,F⟩),
λAy=>T7 n x,
λlM z=>.str z,
λjr9=>Inv (X.wish E) pins σ H s,
λAA e h=>(by obtain⟨e,h⟩:=h),
λzi2=>l.length=n,
λzi3=>J.stop i H,
λzM2=>.type "int",
λP'=>Room k A,
λjs0=>by rintro rfl;exact h v NG,
λjs1=>Str.ofString "__getitem__",
λzi4=>d.length+1,
λzM3=>Room k callerA,
λzM4=>λ_ _ _=>False,
λAB=>NB _ _,
λzM5 e=>starEach [e] X.env,
λAC=>R.ρ x,
λjs2=>by rw[<-q.len];exact b,
λxV g=>s.mono g,
λzM6=>i<items.length,
λzM7 d=>s.heap.IsList ad d,
λzM8=>Txt.upper x,
λzM9=>(n,NameKind.cell),
λzN0=>[.Name x pos'],
λzN1 x=>atI (xs++[x]) (-1),
λjs3=>(by unfold pur at p;cases p),
λzi5=>pln w=true,
λzi6=>pln a=true,
λzi7=>WU ws=true,
λzN2=>box frN m ws h,
λjs4=>List.range' k a.length,
λzN3=>I.hok.fresh hT,
λjs5=>a u (by simp at h;exact h),
λjs6=>g.at λo e=>d.heap S _ C e,
λzN4=>by simp[hh],
λAD=>Full m,
λzi8=>Gl X "set",
λjs7=>(by rw[q]at U;exact absurd (ND U) (N7.mpr hT)),
λjs8=>(by obtain⟨old,g⟩:=O;obtain⟨Z,M,_⟩:=Q),
λR7=>sj m h n,
λzN5=>λc b=>c++b,
λjs9=>List.replicate k items,
λzN6=>x.length<=1000,
λzi9=>XD H dd fs,
λjt0=>(f.2 b (lo b o e)).trans g,
λjt1 F=>λm F=>⟨a,C,d,g,rfl,os,bare,F,q⟩,
λjt2=>Qb (mC (.ty "str")) Ql,
λjt3=>Glob K mg "MOST_BLOCKS" J3,
λzN7=>Xo YQ Qh ?_ ?_,
λzN8=>mg "NoProgram",
λAE=>y∈bs,
λzj0=>["tell",x],
λzj1=>["back",x],
λzj2=>Kw l=false,
λzN9 h=>by rw[Jx,Nx,h];rfl,
λR8 r x=>szw (sd r) x.2,
λzj3=>("do":Str),
λzO0=>by simp[YZ],
λjt4=>λbs=>(W.bl (bs.all id),h),
λjt5=>("z":Str).cps.toList=[122],
λzO1=>λ_=>W.bl true,
λzj4=>x.2.map Qz,
λzO2=>(als p).map Qz,
λjt6=>show cd "do"=.ot by decide,
λzj5=>["do",y.1],
λzO3=>.int (mx ns k),
λjt7=>(by rw[Qe9 c];push_cast;rw[Int.add_mul];omega),
λR9 P k=>dcs (P.drop k),
λAF=>.int 3,
λzO4 k=>in3 (x:=k) (h:=[]),
λRa=>fre 10 y,
λjt8=>(by rcases OO.mp z with q|q;·exact q),
λRb=>Jc ws fs,
λzO5=>ws.length<=200,
λzj6=>Qbx rows 0,
λzO6=>r.length<=1500,
λzj7 c=>h.IsTuple a c,
λzj8 a=>a==sysModules,
λzj9=>(by rw[Zq]at e;cases e),
λxW e=>⟨_,e⟩,
λjt9=>.Constant .none j pos,
λju0=>rI0 λi j=>.int (i+j),
λju1=>HT.sIx xs.length 0 lo,
λsL z=>λz=>?_,
λju2=>∀a o,F a=sO o->b a=sO o,
λju3 d l=>Rst.start (N:=N) d more (by rw[hN,l]),
λC' D z n=>(by rename_i D z n;cases e),
λzk0=>X.pn++j,
λzk1=>.ref ad,
λju4=>by rw[Nr,Nr];simp;lia,
λju5=>env.scope.kind==.function,
λju6=>b=z\/b=TI\/b=TO\/b=l\/b=j,
λju7=>by rw[Nx,EN,Ef a];rfl,
λju8=>a.cps.toList=b.cps.toList,
λju9=>x.cps.toList=y.cps.toList,
λjv0=>s.heap.IsTupleIter it l i,
λjv1=>(by have hl:=R.length;obtain⟨aj,O,Q⟩:=st),
λjv2=>upd j d (.xd [(f,y)]),
λjv3=>z.sameBut f (I.cne y c e),
λjv4=>Yg items src b body r a c,
λzk2 n=>EndsX.ext k n,
λjv5=>Glob K mg "MOST_BACKS" Vv,
λjv6=>Glob K mg "MOST_LINES" Vn,
λjv7=>Glob K mg "MOST_BOXES" Vz,
λjv8=>Glob K mg "MOST_WORDS" Vt,
λjv9=>Glob K mg "MOST_PARTS" Jg,
λjw0=>("a":Str).cps.toList=[97],
λjw1=>by unfold QP;simp;rfl,
λjw2=>l.map λx=>W.bl (f x),
λjw3=>by show(_==_)=true;decide,
λjw4=>by rw[Wp,Wp,Wp];omega,
λjw5=>sO (.bl (decide (a=b)),h),
λjw6=>⟨nO,nO,nO,nO,rfl,rfl⟩,
λjw7=>((n:Int)).natAbs.log2<1920,
λjw8=>sO (.lst (forms.map QdR)),
λjw9 c=>decide (c<128)&&decide (c≠10),
λzO7=>Value.int i t,
λDb a b=>decide (a=b),
λjx0=>decide (Tr.t ks=Tr.t ls),
λzO8=>(by rw[Lm _ rfl];exact Nj h),
λzO9=>a<h.objs.size,
λzP0 j r=>λc v j r=>k c v ?_ r,
λjx1 u q=>λb u q _ _ _=>⟨u.slots,k b u q⟩,
λDo=>sO o,
λjx2=>s.heap.Ns X.env.locals m,
λzP1=>TP X a b Q,
λjx3=>.BoolOp .And [a] pos,
λAG a f=>Qeo X a f b,
λjx4=>λb o j e=>O b o j e,
λzP2=>(x++y).length,
λzP3=>min v.toNat n,
λzP4 F=>by rw[Dh];exact F,
λzk3=>.tup ys,
λjx5=>keywordEach [] X.env,
λjx6=>([]:List Keyword).length,
λAH f=>(by cases f;exact k),
λzP5 b=>Fun K x b st f fd,
λzP6=>upd R.F p o a,
λjx7=>∀a u,R.G a=sO u->a≠p,
λzk4 x r=>Rws.mono x _ _ r,
λD'=>Qe i,
λzP7=>Qi f ma mb,
λjx8 k=>ws.map sO++List.replicate k nO,
λzP8=>sO (.rt v h1),
λjx9=>pure (ForInStep.yield r),
λjy0 m=>λp P z=>sz (I2.pin p P).1 m z,
λjy1=>λb E o e=>old b o e,
λzP9=>NK.mpr rfl,
λzQ0=>x.cps.size<=i,
λjy2=>Zc fin mi cp b KS me,
λmL a=>.tup a,
λE1=>inW x c,
λjy3=>(atI d i).map λw=>(w,h),
λzQ1=>some (.dic _),
λzQ2=>some (.dct _),
λjy4=>sO (.str (Txt.join x c),h),
λzQ3=>ns.length<=63,
λzQ4=>by rw[Nr];lia,
λzQ5=>R.N+js.length,
λjy5=>(by cases e;obtain⟨v,u,rfl,i,g⟩:=QmO rw),
λjy6=>by rw[i.int_eq,g.int_eq],
λzQ6=>Ju t a b σ h,
λzQ7=>λw=>(w,h),
λRc=>(by unfold pln at p),
λRe=>(by unfold dep at d),
λzQ8=>Int×Value,
λzQ9=>.ret .none,
λjy7=>Q nO { s with heap:=h' },
λjy8=>Na (Nj (wpAny_throw ?_)),
λzR0=>StrsAre vs ss,
λRg m i=>⟨m,g,d,i,os⟩,
λzR1=>(by wp_walk using DE a,FY b),
λjy9=>Heap.ExtBut it s.heap h',
λjz0=>(by have hl:=R.length;obtain⟨_,O,Q⟩:=st),
λzR2=>Nu hn.symm,
λzR3=>St.uniq ss,
λzR4 a=>Txt.replace a y z,
λjz1=>(by rw[z b m]at e;cases e),
λzR5=>mN "__init__",
λjz2=>by rw[<-r.length,ev];rfl,
λzR6=>⟨0,0,0,0⟩,
λEQ=>ZK 4,
λRi=>Qe 10,
λjz3=>["k","letters","number"],
λjz4=>Glob K mg "MOST_WAYS" Xe,
λFa=>Zb Q,
λzR7=>p.length-j,
λzR8=>bs.length<=60,
λjz5=>(List.range m).map f,
λjz6=>gS n m nO nO nO nO nO nO,
λzR9=>x.2.take j,
λzS0=>(Zk P k x).wy,
λzS1=>(Zk P 0 x).wy,
λRj=>evR e,
λRk=>QfQ _,
λRl=>Jc ws,
λjz7=>decide (0<n)&&QdQ ws,
λzS2=>c<128/\c≠10,
λzS3 w=>(w.map W.str).length,
λjz8=>.lst ((zs++ys).map .str),
λxX f=>(by by_cases f:b=a),
λuX b=>t b H Q,
λq4 I=>I i j p,
λzk5=>Option HO,
λjz9=>sO { o with slots:=sl },
λjA0=>(g c z).2.2.1 x c e rfl,
λjA1=>z.sameBut f (cne y c e),
λjA2=>.BoolOp .Or [a] pos,
λzk6=>PS X st t,
λzk7 H'=>J.yld i H x H',
λzk8=>λ_=>true,
λjA3 b g=>(by refine Na (tupleItemsOf_ b ?_);refine Na (FX g ?_)),
λzk9=>Ext R1 R2,
λjA4=>p.1=q.1/\Rw K R p.2 q.2,
λjA5=>pure (ForInStep.yield ok),
λjA6=>ty="str_ascii_iterator",
λzl0=>tIG X.K b,
λzl1=>tI X.K me,
λzl2 b=>⟨b,rfl,rfl⟩,
λjA7=>by simpa using Gd g,
λjA8=>(by cases d;obtain⟨v,G,rfl,l,j⟩:=QmO A),
λjA9=>GTab X.w X.K X.mg x tab,
λzl3=>dep a<=40,
λjB0=>StrsAre items.toList ss,
λzl4=>es.size>1,
λjB1=>ItT w I S T vs i s.heap,
λzl5=>PM X e me,
λzl6=>b=e\/b=it,
λzl7=>es.size=0,
λjB2=>SetL prog w h' r us led,
λzl8=>1<=s.toks,
λjB3=>mC (.str "tell  a"),
λjB4=>h[n]?=sO (.dic (kvs d)),
λzl9 p o a m i=>(by rintro j w p o a ⟨m,i,rfl,rfl⟩),
λzm0=>MSt->Prop,
λjB5=>(by rcases last i y a with z|⟨rfl,rfl⟩),
λzm1=>(bld L).2,
λjB6 r=>show(r.length:Int)≠0 by lia]
noncomputable section
namespace _Z
/-! THE HAND LAYER, for ints, bools, texts, own classes, LISTS and tuples (index, slices, in, append, pop ..), calls, loops. Paste it whole ahead of your own text; what your proof does not reach may be deleted. -/
open PySem renaming wpAny_bind->Na,wpAny_pure->Nj,boot_len->NO,wpAny_mono->NZ,wpAny_setState_of->N1,wpAny_newObj_type->Eh,wpAny_field->Es,wpAny_setField->ED,wpAny_call_entry->EE,wpAny_Call_Name_kw->EI,wpAny_callSpecial?_slot->EO,wpAny_holding->ER,wpAny_askSetting->Da,wpAny_truthy_bool->Dd,builtinLookup_eq_fast->Dy,sizeLine_eq->DB,wpAny_of_eq->DC,wpAny_loadPart'->DE,isSubtype_type->DM,call_meets->DN,codeAny_mono->D1,mem_of_lookup->D9,wpAny_getItem_str_slice->Fc,wpAny_standAt->Fe,codeAny_builtin->Fj,typeLookup_type->Fk,wpAny_loadPart_at->Fq,codeAny_call_builtin->FE,wpAny_attempt->FK,wpAny_specialOf->FO,wpAny_passesOwn->FQ,wpAny_typeOf->FX,wpAny_pyIter_tuple->FY,wpAny_seqItems->Ia,wpAny_call->Ic,typeIs_str->Ig,wpAny_rule->Ii,wpAny_storeSet_of->Iq,wpAny_pyIter_enum->Iv,wpAny_isInstance->IE,post_val_or_str->IK,wpAny_setEntries_of->IU,entryFor_alias->Ld,plainId_quiet->Lk,eqIsQuiet_byValue->Lm,wpAny_pyIter_list->Lr,fits_of_scanBound->Lu,wpAny_pyIter_slot->Lv,wpAny_execs_cons->LF,noFill_tuple_add->LH,wpAny_execs_nil->L4,wpAny_updateSeq->L7,codeAny_of_tree->L8,wpAny_ite_split->L9,wpAny_mkInt->Od,wpAny_BinOp->Oe,wpAny_Call_method_late->Oh,wpAny_loadPart->Oy,wpAny_loadName_local->OE,wpAny_pyIter_revIter->OJ,seq_tuple_add->OR,wpAny_handled->OT,wpAny_toks_of->OU,wpAny_loadName_cell->OZ,length_partsBetween->O9,concat_meets->Yae,seqIndex_neg->Yaf,sub_set_self->Yah,list_append->Yaq,seqSlot_of->YaI,call->YaM
open Option renaming bind_eq_some_iff->Nc,map_eq_some_iff->Nf,bind_some->Ni,map_some->Dp,isSome_iff_exists->LG,getD_none->YaC,map_none->YaO
open PySem.W renaming Frag->Nd,kia_one->EK,fnOf->DQ,keepIn->DY,mg_of->FJ,KeysLit->FR,nsIn->FZ,findIn->IZ,codeIn->La,methodObj->Lo,kitx_list->Lp,instObj->LZ,cellsFrom_some->Of,lookIn->Oq,mroIn->OQ,pyHash_slot->OY,kitx_tuple->Yad,kitx_dict->Yap,plainGet->YaB,kitOne->YaQ,WalkO->YaS
open Nat renaming le_trans->Ng,lt_of_le_of_lt->Nk,lt_of_lt_of_le->Np,le_of_eq->Nu,le_of_lt->Nv,le_refl->Ny,le_add_right->NB,zero_add->NU,ne_of_lt->NY,not_lt->N7,zero_le->Eg,lt_trans->EG,not_lt_of_le->EU,lt_succ_self->E9,lt_irrefl->Dc,add_lt_add_left->DJ,ne_of_gt->DP,add_right_comm->DR,add_le_add->DZ,min_le_right->D2,lt_or_ge->D6,le_antisymm->Fg,not_lt_zero->Fh,lt_succ_of_lt->Fo,succ_pos->Fx,sub_le->FB,sub_lt_left_of_lt_add->FS,not_le->Ih,mul_le_mul->Ij,le_of_lt_succ->Ip,le_succ->IA,add_sub_cancel'->IT,mod_lt->LC,add_sub_cancel_left->LS,le_add_left->Oa,add_le_add_right->OK,mul_le_mul_left->O7,add_zero->Yag,pos_of_ne_zero->Yai,add_sub_cancel->Yam,succ_ne_self->YaH
open List renaming getElem?_eq_some_iff->Nh,getElem?_eq_getElem->Nl,size_toArray->Nr,mem_cons_of_mem->Nt,length_append->Nw,getElem?_map->Nx,length_map->Nz,map_cons->NA,mem_cons->NC,mem_cons_self->NG,mem_map->NI,mem_singleton->NK,mem_append->NQ,mem_append_right->NS,length_eq_zero_iff->NT,all_eq_true->NV,length_singleton->NX,mem_of_getElem?->N0,length_cons->N6,mem_iff_getElem?->N8,getD_eq_getElem?_getD->Ec,map_append->Ed,mem_append_left->Ee,mem_range->Ek,map_map->El,getElem?_eq_none->Er,length_reverse->Et,replicate_succ->Eu,getElem?_append_left->Ew,not_mem_nil->Ey,take_add_one->Ez,getElem?_set_self->EA,lookup_cons->EF,dropLast_concat_getLast->EJ,length_take->EL,take_length->EM,nodup_cons->ES,drop_eq_getElem_cons->EV,append_nil->E2,getElem?_range->De,length_pos_iff->Df,length_set->Dh,find?_cons->Di,getElem_mem->Dj,any_cons->Dk,toList_toArray->Dq,drop_eq_nil_of_le->Dr,findIdx?_eq_some_iff_getElem->Ds,getElem?_append_right->Dv,nodup_nil->Dw,getElem?_toArray->Dx,getElem?_set_ne->DD,flatten_cons->DH,map_congr_left->DK,take_of_length_le->DO,take_append_drop->DS,ext_getElem?->DU,all_eq_false->DV,length_range->DW,getElem?_zip_eq_some->DX,length_drop->D3,map_nil->D4,filterMap_cons->D8,foldl_cons->Fi,length_eq_one_iff->Fl,getElem?_reverse->Fw,cons_lt_cons_iff->Fz,reverse_reverse->FC,getElem?_zipIdx->FG,mem_of_mem_drop->FH,map_drop->FN,mem_filter->FP,mem_or_eq_of_mem_set->FT,mem_filterMap->FV,length_erase_of_mem->F3,length_zipIdx->F7,getElem?_drop->F9,getElem?_cons_succ->Il,getElem?_cons_zero->Io,append_assoc->Ir,flatMap_cons->Iw,length_pos_of_mem->IB,all_cons->ID,range'_succ->IF,length_nil->IJ,range_eq_range'->IM,length_zip->IP,mem_erase_of_ne->IQ,getElem_of_mem->IV,flatMap_append->IW,countP_pos_iff->IY,getLastD_cons->Li,length_eraseIdx_of_lt->Ll,reverse_cons->Lq,nodup_append->Ls,pairwise_map->Lw,findIdx?_eq_none_iff->LA,getElem?_eq_none_iff->LB,getElem_inj->LD,cons_append->LJ,isEmpty_iff->LK,mem_flatMap->LM,countP_cons->LN,any_eq_true->LO,getElem?_replicate->LP,filter_cons_of_pos->LW,filter_cons_of_neg->LY,of_mem_zip->L5,range_succ->L6,nil_append->Ob,not_lt_nil->Oc,range_succ_eq_map->Oi,pairwise_lt_range->Ol,filter_eq_nil_iff->Oo,dropLast_eq_take->Ot,contains_iff_mem->Ou,drop_zero->OB,drop_drop->OC,countP_le_length->OD,length_dropLast->OI,perm_cons_erase->OL,mem_of_mem_take->ON,take_eq_nil_iff->OO,sum_cons->OW,filter_eq_self->O3,mem_map_of_mem->O6,zip_cons_cons->Yaj,mem_replicate->Yak,map_set->Yan,any_eq_false->Yao,getElem?_nil->Yas,findIdx?_nil->Yat,foldl_append->Yav,drop_sublist->Yaz,any_toArray->YaE,filter_cons->YaF,nodup_range->YaG,forIn_cons->YaL,range_zero->YaN,mem_range'->YaP
open PySem.Heap renaming get?_push_of_some->Nq,lt_size->ND,get?_push_size->NF,get?_update_self->N2,get?_update_other->N3,get?_none_of_le->Dl,size_push->Lb
open PySem.F renaming plainAttrs_list->NH,slot_list_append->NJ,type_list_append->NP,plainAttrs_str->N4,slot_str_split->ET,slot_str_join->EY,type_str_join->EZ,type_str_split->Dt,slot_tuple_iterator_next->DT,called_set->D5,slot_list_extend->Ft,excBase_ValueError->FL,args_tuple_add_2->FW,entry_tuple_add->Ik,slot_tuple_add->Iy,slot_tuple_mul->IC,slot_list_pop->IS,args_tuple_iterator_next_1->Le,entry_tuple_iterator_next->Lg,args_str_split_2->Lh,entry_str_split->Lx,slot_dict_getitem->Lz,type_list_extend->LL,slot_list_index->LQ,slot_tuple_rmul->LV,slot_dict_get->Os,slot_int_rmul->Ov,type_list_pop->Oz,args_list_append_2->OG,args_list_extend_2->OH,args_object_init_2->OM,entry_list_append->O1,entry_list_extend->O2,plain_extend_loop->O4,attr_ValueError->Yax
open Bool renaming and_eq_true->NL,false_ne_true->EC,or_eq_true->Dn,eq_iff_iff->DF,and_false->DL,not_eq_true'->Fp,false_eq_true->FU,and_eq_true_iff->IR,and_true->OP,or_false->OS,false_or->OV,not_eq_true->YaK
open Int renaming emod_lt_of_pos->NM,emod_nonneg->NW,toNat_natCast->EW,ne_of_gt->D0,toNat_of_nonneg->Fb,eq_ofNat_of_zero_le->Fd,le_trans->F8,not_le->II,le_refl->Lf,add_zero->Yal
open Array renaming length_toList->NR,getElem?_eq_getElem->Ef,getElem?_eq_some_iff->Ej,getElem?_toList->EN,mem_toList_iff->Dm,getD_eq_getD_getElem?->FA,eq_empty_of_size_eq_zero->IL,getElem?_eq_none->Oj,toList_append->O8,forIn_toList->Yab,find?_toList->Yac,toList_push->Yau,getElem_mem->YaA
open PyProof.Rows renaming boot_tuple->N5,boot_isinstance->N9,callWith_type1->Em,slot_tuple_getitem->Ep,callWith_builtin1->Dg,boot_all->Dz,boot_int->Fy,boot_max->IG,subscriptTail_builtinR->Og,boot_list->Om,boot_str->OA,entry_tuple_getitem->O0
open PySem.Heap.SameBut renaming update->Ea,refl->Fm,extBut->O5
open PySem.PassesOwn renaming never->Eb
open PySem.Obj renaming data_mapFields->Ei,isFreed_of_fields->EX,cls_mapFields->Yaw
open Option.some renaming inj->Eo,injEq->Yay
open Ne renaming symm->EB
open PySem.Calls renaming spliced_cons->EH,spliced_nil->DG,Constant_str->Ff,callWith_builtin->Iz,Name_function_global->Lj,evalArgs_plain->OF
open PySem.Paired renaming length->Du
open Classical renaming byContradiction->DA
open LawfulBEq renaming eq_of_beq->DI
open PySem.Value renaming isStrOf_shape->D7
open PySem.Txt renaming slice_le->Fv
open PySem.Around renaming under_plainId->FD
open PySem.Code renaming quiet_builtin->F0
open PyProof.Rows.F renaming plain_set_update_loop->Im,entry_set_update_loop->LU
open PySem.WalksT renaming enumerateD->Iu
open PySem.StrLaws renaming glued_eq_join->IH
open PyProof.Rows.StrsAre renaming length->Lc
open PySem.Challenge renaming pw_doneroom_k07_texts_that_are_none->Ly
open List.Pairwise renaming imp_of_mem->LI
open PySem.Str renaming ofString_eq_toList->On
open List.Perm renaming refl->Ox
open PySem.SeqAt.EqAt renaming int_str->Qq,str_int->Yaa
open Function renaming comp_def->Yar
open PySem.IsL renaming update->YaD
open PySem.Heap.ExtBut renaming push->YaJ
open PyProof.Rows.IsTup renaming new->YaR
open List.cons renaming inj->YaT
open PySem PySem.Spec PyProof.Rows
open Option renaming some→sO,none→nO
namespace L2
noncomputable abbrev Key:=Sum Int Str
noncomputable def Qd8:Key->Value->Bool
 |dU k,v=>Value.isInt k v
 |gY x,v=>Value.isStrOf x v
noncomputable def QtE(w:World):Key->Int
 |dU k=>hashInt k
 |gY x=>hashStr w x
theorem Jl:∀{k:Key} {v:Value},Qd8 k v=true->(∃i t,k=Ar i/\v=zO7)\/(∃x t,k=s9 x/\v=P7 t)
 |dU i,v,h=>by
  obtain⟨t,e⟩:=Value.isInt_shape (k:=i) (v:=v) h;exact .inl ⟨i,t,rfl,e⟩
 |gY x,v,h=>by
  obtain⟨t,e⟩:=D7 (x:=x) (v:=v) h;exact .inr ⟨x,t,rfl,e⟩
theorem QgC(i:Int)(t:Tok):Qd8 (iS i) rB=true:=by simp[Qd8,Value.isInt]
theorem QfG(x:Str)(t:Tok):Qd8 wY (.str x t)=true:=by simp[Qd8,Value.isStrOf]
theorem QoY(a b:Int):decide ((Ar a:Key)=Ar b)=(a==b):=by
 show yM e a b
 ·have h:¬(Ar a:Key)=Ar b:=λq=>e (Sum.inl.inj q);rw[qQ h];show zv8 e
theorem Qn5(a b:Str):decide ((s9 a:Key)=s9 b)=Db a b:=by
 show yM e a b
 ·have h:¬(s9 a:Key)=s9 b:=λq=>e (Sum.inr.inj q);rw[qQ h,qQ e]
theorem Qoq(a:Int)(b:Str):decide ((Ar a:Key)=s9 b)=false:=decide_eq_false (λq=>uN q)
theorem QnH(a:Str)(b:Int):decide ((s9 a:Key)=Ar b)=false:=decide_eq_false (λq=>uN q)
noncomputable def KO(prog:Program)(w:World):PySem.KeyKind prog w Key where
 is:=Qd8
 hash:=QtE w
 inj:=λv a b l f=>by
  show Hg l i t x
  ·show zt1 f j
   ·injection e with c _;rw[c]
   ·show uO e
  ·show zt1 f j
   ·show uO e
   ·injection e with c _;rw[c]
 byValue:=λk v h=>by
  rcases Jl h with⟨i,t,rfl,rfl⟩|⟨x,t,rfl,rfl⟩<;>rfl
 pyHash:=λd h=>by
  show Hg d i t x
  ·exact wpAny_pyHash_int h
  ·exact wpAny_pyHash_str h
 eqBool:=λg d h=>by
  show Hg g i t x
  ·show Hg d j u y
   ·rw[QoY]at h;exact wpAny_eqBool_int h
   ·rw[Qoq]at h;exact Qq i t y u _ _ _ _ h
  ·show Hg d j u y
   ·rw[QnH]at h;exact Yaa x t j u _ _ _ _ h
   ·rw[Qn5]at h;exact wpAny_eqBool_str h
 «strs»:=λk x t v h=>by
  show zt1 h i
  ·show uO e
  ·injection e with c _
   subst c;cases v<;>rfl
theorem QbG(prog:Program)(w:World)(i:Int)(t:Tok):(KO prog w).is (iS i) rB=true:=QgC i t
theorem QbN(prog:Program)(w:World)(x:Str)(t:Tok):(KO prog w).is wY (.str x t)=true:=QfG x t
inductive V where
 |non|bl (b:Bool)|int (i:Int)|str (x:Str)|byt (b:Array UInt8)|flt (b:UInt64)|ref (a:Addr)|ty (n:String)
 deriving DecidableEq
noncomputable def RelV:V->MP
 |.non,u=>u=Value.none
 |.bl b,u=>u=Value.bool b
 |aL i,u=>∃t,u=zO7
 |aJ x,u=>∃t,u=P7 t
 |.byt b,u=>∃t,u=Value.bytes b t
 |.flt b,u=>∃t,u=Value.float b t
 |aG a,u=>u=eK a
 |.ty n,u=>u=Value.type n
noncomputable abbrev Vals:bD->aZ->Prop:=Paired RelV
theorem Vals.length{xs:bD}{us:aZ}(r:lC):xs.length=us.length:=Du r
theorem We{c d:Type}{F:c->d->Prop}{b:gN c}{a:gN d}{j:Nat}{x:c}(p:Paired F b a)(e:b[j]?=sO x):∃v,a[j]?=sO v/\F x v:=by
 induction p generalizing j with
 |nil=>cases e
 |cons r t f=>
  cases j with
  |zero=>cases e;show Cy r
  |succ j=>exact f e
theorem Vals.get{xs:bD}{us:aZ}{i:Nat}{x:V}(p:lC)(e:xs[i]?=sO x):∃u,us[i]?=sO u/\dJ x:=
 We p e
theorem Vals.set{x:V}{u:Value}(r:dJ x):∀{xs:bD} {us:aZ} (i:Nat),lC->Vals (xs.set i x) (us.set i u)
 |_,_,_,.nil=>.nil
 |_,_,0,.cons _ t=>.cons r t
 |_,_,i+1,.cons q t=>.cons q (Vals.set r i t)
theorem Vals.append{xs ys:bD}{us ws:aZ}(a:lC)(s:Vals ys ws):Vals (xs++ys) (us++ws):=
 a.rec s λr _ h=>.cons r h
theorem Vals.take:∀{xs:bD} {us:aZ} (n:Nat),lC->Vals (xs.take n) (us.take n)
 |_,_,0,_=>.nil
 |_,_,_+1,.nil=>.nil
 |_,_,n+1,.cons r t=>.cons r (Vals.take n t)
theorem Vals.drop:∀{xs:bD} {us:aZ} (n:Nat),lC->Vals (xs.drop n) (us.drop n)
 |_,_,0,r=>r
 |_,_,_+1,.nil=>.nil
 |_,_,n+1,.cons _ t=>Vals.drop n t
noncomputable def RelO:kA V->jS->Prop
 |gA v,sO u=>dJ v
 |none,nO=>True
 |_,_=>False
noncomputable def KV{κ:Type}:mY->yS->Prop:=Paired λ(p:κ×V) (q:κ×Value)=>p.1=q.1/\RelV p.2 q.2
inductive Tr where
 |i (n:Int)
 |s (x:Str)
 |t (ks:List Tr)
noncomputable instance trDec:DecidableEq Tr:=λ_ _=>Classical.propDecidable _
noncomputable def IsT(h:Heap):Nat->Tr->MP
 |0,_,_=>False
 |_+1,.i k,v=>(∃t,v=.int k t)\/∃b:Bool,v=.bool b/\k=if b then 1 else 0
 |_+1,.s x,v=>∃t,v=.str x t
 |n+1,.t ks,v=>∃a c,v=aG a/\zj7 c/\Paired (IsT h n) ks c.toList
theorem Qjc{d c:Type}{F:d->c->Prop}(hi:∀x y v,F x v->F y v->x=y){xs ys:gN d}{vs:gN c}(p:Paired F xs vs)(q:Paired F ys vs):xs=ys:=by
 induction p generalizing ys with
 |nil=>cases q;rfl
 |cons a s e=>cases q with|cons b t=>rw[hi _ _ _ a b,e t]
theorem Qer{h:Heap}{n:Nat}{x:Tr}{a:Addr}(d:IsT h n x (aC a)):∃m ks c,n=m+1/\x=.t ks/\zj7 c/\Paired (IsT h m) ks c.toList:=by
 cases n with
 |zero=>show iH d
 |succ n=>
  cases x with
  |i k=>rcases d with⟨t,e⟩|⟨b,e,_⟩<;>cases e
  |s y=>show fV t e d;cases e
  |t ks=>show cA f c e p q d;cases e;exact⟨n,ks,c,rfl,rfl,p,q⟩
theorem Qcc{h:Heap}{a:Addr}{x y:dC}(e:zj7 x)(d:zj7 y):x=y:=by
 obtain⟨o,g,_,n,f⟩:=e;obtain⟨i,c,_,j,b⟩:=d;show bT g c;rw[f]at b;injection b
noncomputable def gT:Value->Tr
 |.int i _=>.i i
 |.bool b=>.i (tF b)
 |.str x _=>.s x
 |_=>.t []
theorem Qnx{h:Heap}{n:Nat}{x:Tr}{v:Value}(c:IsT h n x v):(∃a,v=aG a)\/x=gT v:=by
 cases n with
 |zero=>show iH c
 |succ n=>
  cases x with
  |i k=>rcases c with⟨t,rfl⟩|⟨b,rfl,rfl⟩<;>exact PV
  |s y=>show aO t c;exact PV
  |t e=>obtain⟨a,d,rfl,_⟩:=c;exact .inl (hL a)
theorem QfA{h:Heap}:∀{n:Nat} (x y:Tr) (v:Value),IsT h n x v->IsT h n y v->x=y:=by
 intro n
 induction n with
 |zero=>
  intro _ _ _ b _;show iH b
 |succ n j=>
  intro x y v b d
  by_cases r:∃a,v=aG a
  ·show aO a r;obtain⟨m,t,i,e,rfl,p,q⟩:=Qer b;obtain⟨o,s,c,l,rfl,g,f⟩:=Qer d;show oS e l;cases Qcc p g;rw[Qjc (λx y v=>j x y v) q f]
  ·rw[(Qnx b).resolve_left r,(Qnx d).resolve_left r]
theorem Qd5{g e:Type}{F G:g->e->Prop}(f:∀a b,F a b->G a b){d:gN g}{c:gN e}(p:Paired F d c):Paired G d c:=
 jf6
theorem QgW{h h':Heap}{d:Addr}{o:Obj}{es w}(j:aI h d=sO o)(hd:o.data=.dict es w)(r:Heap.SameBut d h h'){n:Nat}(k:Tr)(v:Value)(x:IsT h n k v):IsT h' n k v:=by
 induction n generalizing k v with
 |zero=>show iH x
 | succ n p=>
  cases k with
  |i k=>exact x
  |s k=>exact x
  | t y=>
   obtain⟨a,f,e,⟨l,c,u,m,b⟩,q⟩:=x
   have g:a≠d:=by
    rintro rfl
    show bT c j;rw[hd]at b;show uO b
   exact⟨a,f,e,⟨l,(r.2 a g).trans c,u,m,b⟩,Qd5 p q⟩
noncomputable def hN(w:World):Nat->Tr->Int
 |0,_=>0
 |_+1,.i k=>hashInt k
 |_+1,.s x=>hashStr w x
 |n+1,.t ks=>reduceHash (Builtin.Tuple.tupleHashOf (ks.map (hN w n)))
noncomputable def dN:Nat->Tr->Nat
 |0,_=>0
 |_+1,.i _=>1
 |_+1,.s _=>1
 |n+1,.t ks=>(ks.map (dN n)).sum+1
section
variable{prog:Program}{w:World}{E:bI}
theorem Qbp{n:Nat}{A:Around}(c:∀(k:Tr) (v:Value) (s:Shared) (Q:Int->cS),P9 k v->jb4->wpAny aX A (pyHash v) Q E s) :
  ∀(ks:List Tr) (vs:aZ) (s:Shared) (b:Array Int) (Q:Array Int->cS),Paired (IsT s.heap n) ks vs ->
  (∀a,a.toList=b.toList++ks.map (hN w n)->Q a { s with toks:=s.toks+(ks.map (dN n)).sum }) ->
  wpAny aX A (forIn vs b λx r=>do let h <-pyHash x;pure PUnit.unit;pure (ForInStep.yield (r.push h))) Q E s
 |[],_,s,b,Q,x,h=>by cases x;exact Nj (h b aF)
 | k::ks,_,s,b,Q,x,h=>by
  cases x with
  |cons e d=>
   rw[YaL];refine Na (Na (c k _ s _ e ?_));refine Na (Nj f6);refine Qbp c ks _ _ _ Q d (bQ a f);have:=h a (kS f);simpa[Nat.add_assoc]using this
theorem Qjw:∀(n:Nat) (A:Around),KK->∀(k:Tr) (v:Value) (s:Shared) (Q:Int->cS),P9 k v->jb4->wpAny aX A (pyHash v) Q E s
 |0,_,_,_,_,_,_,x,_=>x.elim
 | n+1,A,c,.i k,v,s,Q,x,h=>by
  show AS x b
  ·exact wpAny_pyHash_int h
  ·refine OY (T:="bool") rfl F.slot_bool_hash entry_int_hash (args_int_hash _) (beq_builtin_none _) (.inr (Nk dZ c)) ?_;cases b
   ·exact(show wpAny _ _ (do ret (<-mkInt 0)) _ _ s from jo8)
   ·exact(show wpAny _ _ (do ret (<-mkInt 1)) _ _ s from jo8)
 |n+1,A,c,.s y,v,s,Q,x,h=>by
  show aO t x;exact wpAny_pyHash_str h
 |n+1,A,c,.t e,v,s,Q,x,h=>by
  obtain⟨a,f,rfl,⟨o,d,g,m,hd⟩,q⟩:=x;refine OY (T:="tuple") ⟨_,d,g⟩ F.slot_tuple_hash F.entry_tuple_hash (F.args_tuple_hash_1 _) (beq_builtin_none _) (.inr (Nk dZ c)) ?_;show wpAny _ _ (Builtin.Tuple.tupleItemsOf (aC a)>>=_) _ _ s;refine Na (wpAny_tupleItemsOf d hd ?_);show pW;rw[<-Yab];refine Qbp (n:=n) (λk v s Q=>Qjw n A.in1 zs1 k v s Q) e _ s #[] _ q (bQ b j);show wpAny _ _ (retInt (Builtin.Tuple.tupleHashOf b.toList)) _ _ _;rw[j];refine Na (Od (Nj ⟨_,_,rfl,?_⟩));simpa[hN,dN,Nat.add_assoc]using h
theorem QkU{n:Nat}{h:Heap}{e:Nat->Bool}:∀{ks ls:List Tr} {us vs:aZ},Paired (IsT h n) ks us->Paired (IsT h n) ls vs->(∀(j:Nat) (x y:Tr),ks[j]?=sO x->ls[j]?=sO y->e j=Db x y) ->
  ((List.range (min us.length vs.length)).all e&&us.length==vs.length)=jx0:=by
 intro ks ls us vs p q f;have i:=Du p;have g:=Du q;rw[<-i,<-g]
 by_cases c:ks.length=ls.length
 ·by_cases d:ks=ls
  ·subst d;simp only[Nat.min_self,beq_self_eq_true,OP,decide_true];rw[NV];intro j b;rw[Ek]at b;rw[f j ks[j] ks[j] (Nl b) (Nl b)];simp
  ·have:jx0=false:=decide_eq_false λz=>d (Tr.t.inj z);rw[this,Bool.and_eq_false_iff];left;have:∃j,ks[j]?≠ls[j]?:=DA λz=>d (DU λj=>DA λy=>z (iI j y));obtain⟨j,b⟩:=this;have a:j<ks.length:=DA λz=>b (by rw[Er (mI z),Er (Ng (dX c) (mI z))]);rw[DV];refine⟨j,Ek.mpr aQ,?_⟩;rw[f j ks[j] ls[j] (Nl a) (Nl (Np a (Nu c)))];intro z;rw[decide_eq_true_eq]at z;exact b (by rw[Nl a,Nl (Np a (Nu c)),z])
 ·have l:(ks.length==ls.length)=false:=SB c;rw[l,DL];exact(decide_eq_false λz=>c (by rw[Tr.t.inj z])).symm
open SeqAt in
theorem Qsg{s:Shared}:∀(n:Nat) (A:Around),KK->∀(x y:Tr) (u v:Value),P9 x u->P9 y v->EqAt A s u v (decide (x=y))
 |0,_,_,_,_,_,_,c,_=>c.elim
 | n+1,A,f,.i a,.i b,u,v,c,d=>by
  have hd:decide (Tr.i a=Tr.i b)=(a==b):=by
   show yM z a b
   ·rw[decide_eq_false λq=>z (Tr.i.inj q)];show zv8 z
  rw[hd]
  rcases c with⟨t,rfl⟩|⟨p,rfl,rfl⟩<;>rcases d with⟨h,rfl⟩|⟨q,rfl,rfl⟩
  ·exact EqAt.int_int a t b h
  ·exact EqAt.int_bool a t q
  ·exact EqAt.bool_int p b h
  ·have:=EqAt.bool_bool (A:=A) (s:=s) p q;cases p<;>cases q<;>exact this
 |n+1,A,f,.i a,.s b,u,v,c,d=>by
  show aO h d;rw[decide_eq_false i7]
  show AS c p
  ·exact EqAt.int_str a t b h
  ·exact EqAt.bool_str p b h
 |n+1,A,f,.i a,.t l,u,v,c,d=>by
  show V2 d;rw[decide_eq_false i7]
  show AS c q
  ·exact EqAt.int_tuple a t p (Nk dZ f)
  ·exact EqAt.bool_tuple q p (Nk dZ f)
 |n+1,A,f,.s b,.i a,u,v,c,d=>by
  show aO h c;rw[decide_eq_false i7]
  show AS d p
  ·exact EqAt.str_int b h a t
  ·exact EqAt.str_bool b h p
 | n+1,A,f,.s a,.s b,u,v,c,d=>by
  show aO t c;show aO h d
  have hd:decide (Tr.s a=Tr.s b)=(a==b):=by
   show yM z a b
   ·rw[decide_eq_false λq=>z (Tr.s.inj q)];show zv8 z
  rw[hd];exact EqAt.str_str a t b h
 |n+1,A,f,.s b,.t l,u,v,c,d=>by
  show V2 d;show aO t c;rw[decide_eq_false i7];exact EqAt.str_tuple b t p (Nk dZ f)
 |n+1,A,f,.t l,.i a,u,v,c,d=>by
  show V2 c;rw[decide_eq_false i7]
  show AS d q
  ·exact EqAt.tuple_int a t p (Nk dZ f)
  ·exact EqAt.tuple_bool q p (Nk dZ f)
 |n+1,A,f,.t l,.s b,u,v,c,d=>by
  show V2 c;show aO t d;rw[decide_eq_false i7];exact EqAt.tuple_str b t p (Nk dZ f)
 | n+1,A,f,.t l,.t m,u,v,c,d=>by
  obtain⟨ad,g,rfl,p,q⟩:=id c;obtain⟨T,o,rfl,L,G⟩:=id d
  by_cases C:ad=T
  ·subst C;have:=QfA _ _ _ c d;rw[this,decide_eq_true rfl];exact EqAt.same _
  ·refine EqAt.of_refs C ?_;have Q:=Qsg (s:=s) n A.in1 (by show A6+n<cLine;omega)
   have J:=RcAt.tuples (A:=A) (s:=s) (e:=zW2) p L (Nk dZ f) (λj F D=>by
    have N:=Du q;have M:=Du G;have P:j<l.length:=qY N F
    have O:j<m.length:=qY M D
    obtain⟨x,c⟩:∃x,l[j]?=sO x:=⟨l[j],Nl P⟩
    obtain⟨y,d⟩:∃y,m[j]?=sO y:=⟨m[j],Nl O⟩
    obtain⟨u,r,H⟩:=We q c;obtain⟨t,B,I⟩:=We G d;rw[c,d]
    have S:g[j]=u:=by
     rw[EN,Ef F]at r;exact Eo r
    have R:o[j]=t:=by
     rw[EN,Ef D]at B;exact Eo B
    rw[S,R]
    exact Q x y u t H I)
   have:=QkU (e:=zW2) q G (λj x y F D=>by simp only[F,D]);rw[NR,NR]at this;rw[this]at J;exact J
theorem QeI{A:Around}{s:Shared}:∀(n m:Nat) (k:Tr) (v:Value) (Q:Bool->cS),P9 k v->n<=m->Q true s->wpAny aX A (eqIsQuiet m v) Q E s
 |0,_,_,_,_,x,_,_=>x.elim
 |n+1,m,.i k,v,Q,x,_,h=>by
  show AS x b
  ·show zO8
  ·show zO8
 |n+1,m,.s k,v,Q,x,_,h=>by
  show aO t x;show zO8
 |n+1,0,.t g,v,Q,x,B,h=>aU
 | n+1,m+1,.t g,v,Q,x,B,h=>by
  obtain⟨a,e,rfl,⟨o,j,C,l,hd⟩,q⟩:=x;have p:s.TypeIs (aC a) "tuple":=⟨o,j,C⟩
  unfold eqIsQuiet;refine Na (FO p F.slot_tuple_eq.lookup ?_);show wpAny _ _ (isInstance (aC a) tH>>=_) _ _ s;refine Na (IE p isSubtype_tuple_tuple ?_);simp only[Bool.not_true,FU,if_false];refine Na (Ia j hd ?_);show pW;show wpAny _ _ (forIn e _ _) _ _ s;rw[<-Yab];refine wpAny_forIn_list _ (λrest r d=>r.1=nO/\d=s/\∃c,Paired (IsT s.heap n) c rest) _ ?_ ?_ _ _ ⟨rfl,rfl,g,q⟩
  ·rintro v rest r d ⟨f,rfl,c,z⟩
   cases z with
   |cons y u=>
    refine Na (QeI n m _ _ _ y aQ ?_);simp only[Bool.not_true,FU,if_false];exact Nj ⟨rfl,rfl,_,u⟩
  ·rintro⟨G,D⟩ d ⟨f,rfl,_⟩
   show zH f;exact Nj h
#print "-"
noncomputable def QhY(prog:Program)(w:World):HeapKind prog w Tr where
 is:=λh k a=>IsT h 8 k (aC a)
 hash:=hN w 8
 draws:=dN 8
 room:=λA=>A.units+8<cLine
 inj:=λc b=>QfA _ _ _ c b
 keeps:=λx g hd f=>QgW g hd f _ _ x
 pyHash:=λd e h=>Qjw 8 _ d _ _ _ _ e h
 eqBool:=λd c b h=>Qsg 8 _ d _ _ _ _ c b _ _ _ _ h
 quiet:=λe h=>QeI 8 8 _ _ _ e cO h
noncomputable def kV:Key->V
 |dU i=>aL i
 |gY x=>aJ x
inductive HO where
 /-- a list -/
 |lst (xs:bD)
 /-- a tuple (never changes) -/
 |tup (xs:bD)
 /-- a dict whose keys are ints and texts;one whose keys are tuples of ints and texts (the empty one is both) -/
 |dK (kvs:gU V)|dT (kvs:HM)
 /-- a set of ints: its members,its size -/
 |set (S:Int->Bool) (n:Nat)
 /-- an instance of the class at C,its dict at dx,its attributes -/
 |ins (C dx:Addr) (fs:pC)
 /-- the dict of the instance at x -/
 |own (x:Addr)
 /-- the dict of an exception -/
 |xd (fs:pC)
 /-- a bound method,f of x -/
 |met (f x:Addr)
 /-- a range object lo,lo+1,.. below hi -/
 |rng (lo hi:Int)
 /-- a thing that is known to the object (the script;a dict while a loop walks it): read,never written while it is so -/
 |frz (o:Obj) (u:HO)
 /-- a code object's table -/
 |tbl (ps:dC)
 /-- any other thing,by what is true of its one object (a def of one's own: SetO a S n:=HO.ext λh=>..) -/
 |ext (φ:zV)
noncomputable abbrev Hp:=Addr->zk5
noncomputable def upd(H:Hp)(a:Addr)(o:HO):Hp:=λb=>if b=a then sO o else H b
theorem Zq{H:Hp}{a:Addr}{o:HO}:upd H a o a=sO o:=by unfold upd;rw[nC]
theorem QE{H:Hp}{a b:Addr}{o:HO}(h:b≠a):upd H a o b=H b:=by unfold upd;rw[cR h]
theorem Zo{H:Hp}{a b:Addr}{o:HO}(h:PY)(h':gM):a≠b:=by
 intro e;subst e;show bT h h'
section
variable(P:Program)(w:World)
noncomputable def ObjOk(H:Hp)(h:Heap)(a:Addr):HO->Prop
 |.lst xs=>yI/\∃(b:aZ) (n:Nat),xJ b/\aI h a=sO { cls:=eC,data:=jV b n }
 |.tup xs=>yI/\∃b:aZ,xJ b/\IsTup h a b.toArray
 |.dK kvs=>zm6
 | .dT kvs=>SO/\SJ/\∃xs:List (Tr×Addr×Value),
   Paired (λ(p:Tr×Addr×V) (q:Tr×Addr×Value)=>p.1=q.1/\p.2.1=q.2.1/\RelV p.2.2 q.2.2) kvs xs /\
   ∃o es i,aI h a=sO o/\o.ExactDict/\o.data=.dict es i/\es.toList=xs.map (entryOfKey (QhY P w))/\(xs.map (·.1)).Nodup/\i=es.size
 |.set S n=>h.SetOf (intKind P w) a S n
 | .ins C d fs=>H d=rL a/\V3/\d≠a/\aI h a=sO (LZ C d) /\
   ∃c,h.Ns1 d c/\(∀f,zy9 c)/\PySem.Within c (fs.map (·.1))
 |.own _=>∃o,aI h a=sO o
 |.xd fs=>∃c,h.Ns1 a c/\∀f,zy9 c
 |.rng lo hi=>∃t u v,aI h a=sO { cls:=BG,data:=AN }
 |.frz o u=>aI h a=sO o/\ObjOk H h a u
 |.tbl ps=>aI h a=zr2
 |.met f x=>aI h a=sO (Lo (aC f) (aC x))
 |.ext e=>e h/\(∃o,aI h a=sO o)/\∀h1 g:Heap,e h1->(∀o,aI h1 a=sO o->aI g a=sO o)->e g
def HOk(H:Hp)(h:Heap):Prop:=∀a o,PY->Bx o
#print "-"
section
variable{P:Program}{w:World}{H H':Hp}{h h':Heap}{a:Addr}{o:HO}
theorem ObjOk.lt(x:Bx o):zO9:=by
 cases o with
 |lst b=>obtain⟨_,_,_,_,e⟩:=x;exact ND e
 |tup b=>show zW p x;exact p.lt
 |dK kvs=>show jo9
 |dT kvs=>show jo9
 |set S n=>obtain⟨o,_,_,_,e,_⟩:=x;exact ND e
 |ins C g fs=>obtain⟨_,_,_,e,_⟩:=x;exact ND e
 |own y=>obtain⟨_,e⟩:=x;exact ND e
 |xd fs=>obtain⟨_,⟨_,_,_,e,_⟩,_⟩:=x;exact ND e
 |rng lo d=>show zW e x;exact ND e
 |frz ob u=>obtain⟨e,_⟩:=x;exact ND e
 |tbl ps=>exact ND (show aI h a=sO _ from x)
 |met f y=>exact ND (show aI h a=sO _ from x)
 |ext c=>obtain⟨_,⟨_,e⟩,_⟩:=x;exact ND e
theorem Paired.mapP{g e:Type}{F G:g->e->Prop}{d:gN g}{c:gN e}(p:Paired F d c)(f:∀a b,F a b->G a b):Paired G d c:=
 jf6
theorem ObjOk.stay(x:Bx o)(k:∀b u,(b=a\/H b=rL a)->aI h b=sO u->aI h' b=sO u)
  (B:∀b,H b=rL a->H' b=rL a) (F:∀b xs,H b=sO nF->H' b=sO nF):ObjOk P w H' h' a o:=by
 induction o with
 |lst xs=>show cA z j n r e x;exact⟨z,j,n,r,k _ _ fE e⟩
 |tup xs=>obtain⟨z,j,r,ob,e,c⟩:=x;exact⟨z,j,r,ob,k _ _ fE e,c⟩
 |dK kvs=>obtain⟨z,y,s,r,ob,g,i,e,c⟩:=x;exact⟨z,y,s,r,ob,g,i,k _ _ fE e,c⟩
 |dT kvs=>
  obtain⟨z,y,xs,r,ob,g,i,e,c⟩:=x;exact⟨z,y,xs,r,ob,g,i,k _ _ fE e,c⟩
 |set S n=>obtain⟨ob,g,i,t,e,c⟩:=x;exact⟨ob,g,i,t,k _ _ fE e,c⟩
 |ins C I fs=>
  obtain⟨d,z,ne,e,m,⟨l,g,i,D,c⟩,r⟩:=x;exact⟨B _ d,z,ne,k _ _ fE e,m,⟨l,g,i,k _ _ (.inr d) D,c⟩,r⟩
 |own y=>obtain⟨ob,e⟩:=x;exact⟨ob,k _ _ fE e⟩
 |xd fs=>obtain⟨m,⟨l,g,i,e,c⟩,r⟩:=x;exact⟨m,⟨l,g,i,k _ _ fE e,c⟩,r⟩
 |rng lo G=>show hZ t u v e x;exact⟨t,u,v,k _ _ fE e⟩
 |frz ob u A=>show fV e q x;exact⟨k _ _ fE e,A q⟩
 |tbl ps=>
  have e:aI h a=zr2:=x;show aI h' a=zr2;exact k a _ fE e
 |met f y=>
  have e:aI h a=sO (Lo (aC f) (aC y)):=x;show aI h' a=sO (Lo (aC f) (aC y));exact k a _ fE e
 |ext E=>obtain⟨p,⟨o,e⟩,st⟩:=x;exact⟨st _ _ p λo q=>k _ _ fE q,⟨o,k _ _ fE e⟩,st⟩
theorem HOk.lt(x:lB)(e:PY):zO9:=(x a o e).lt
theorem HOk.fresh(x:lB)(e:zM1):H a=nO:=by
 cases q:H a with
 |none=>rfl
 |some u=>exact absurd (Np (x.lt q) e) (Dc _)
theorem HOk.kept(x:lB)(k:∀b u,aI h b=sO u->aI h' b=sO u):HOk P w H h':=λa o e=>
 (x a o e).stay (λb u _ q=>k b u q) P0 (gL q)
theorem HOk.laid(x:lB)(k:∀b u,aI h b=sO u->aI h' b=sO u)(g:zM1)(new:ObjOk P w (lG a) h' a o):HOk P w (lG a) h':=λb u e=>by
 have d:=x.fresh g
 show RL f a e
 ·rw[QE f]at e;exact(x b u e).stay (λc v _ q=>k c v q) (λc q=>yG q d) λc i q=>yG q d
#print "-"
def Rd(H:Hp)(a:Addr)(u:HO):Prop:=H a=sO u\/∃o,H a=Mp
theorem Rd.ok{P:Program}{w:World}{H:Hp}{h:Heap}{a:Addr}{u:HO}(r:Rd H a u)(x:lB):Bx u:=by
 rcases r with r|⟨o,r⟩
 ·exact x a u r
 ·obtain⟨_,q⟩:=x a _ r;exact q
noncomputable def Mut:zk5->Prop
 |zc5=>True
 |some (.dK _)=>True
 |some (.dT _)=>True
 |some (.set _ _)=>True
 |some (.ins _ _ _)=>True
 |some (.ext _)=>True
 |_=>False
section
variable{P:Program}{w:World}{H:Hp}{h h':Heap}{x e:Addr}{o':HO}
theorem HOk.write(ok:lB)(i:Mut (H x))(o:e=x\/H e=rL x)(k:∀b u,b≠e->aI h b=sO u->aI h' b=sO u)(m:∃u,aI h' e=sO u)
  (new:ObjOk P w (upd H x o') h' x o'):HOk P w (upd H x o') h':=λb u q=>by
 have d:∀c y,H c=rL y->c≠x:=λc y r z=>zz0 r i
 have f:∀c g,H c=sO (.tup g)->c≠x:=λc g r z=>zz0 r i
 show RL l x q
 ·rw[QE l]at q
  by_cases a:b=e
  ·have n:H b=rL x:=by
    show iP o z
    ·exact absurd (eI a z) l
    ·rw[a];exact z
   show bT q n;show fV v p m;exact⟨v,qY a p⟩
  ·refine(ok b u q).stay (zP0 j r) (λc r=>by rw[QE (d c b r)];exact r) λc g r=>by rw[QE (f c g r)];exact r
   show PH j
   ·exact a
   ·rintro rfl
    show iP o z
    ·exact d c b j z
    ·show bT j z;exact l rfl
#print "-"
structure Un(fs ex:cV)(H H':Hp)(h h':Heap):Prop where
 keep:∀b o,aI h b=sO o->gM->b∉fs->b∉ex->aI h' b=sO o
 slot:∀b o,aI h b=sO o->gM->b∈fs->b∉ex->∃sl,aI h' b=jz9
 free:∀b o,aI h b=sO o->gM->b∉ex->H' b=nO
 there:∀b o,aI h b=sO o->b∉ex->∃o',aI h' b=sO o'
 tups:∀b xs,H b=sO nF->H' b=sO nF
 frzs:∀b o u,H b=Mp->H' b=Mp
 tbls:zW8
section
variable{fs fs' ex ex':cV}{H H1 H2:Hp}{h h1 h2 h':Heap}{a x e:Addr}{o:HO}
theorem Un.any(u:Un fs ex H H1 h h1){b:Addr}{ob:Obj}(q:aI h b=sO ob)(n:gM)(c:b∉ex):∃f,aI h1 b=sO { ob with slots:=f }:=by
 by_cases d:b∈fs
 ·exact u.slot b ob q n d c
 ·exact⟨ob.slots,u.keep b ob q n d c⟩
theorem Un.kept(k:∀b u,aI h b=sO u->aI h' b=sO u):Un fs ex H H h h':=
 ⟨λb ob q _ _ _=>k b ob q,λb ob q _ _ _=>⟨ob.slots,k b ob q⟩,λ_ _ _ n _=>n,λb ob q _=>⟨ob,k b ob q⟩,gL q,λ_ _ _ q=>q,λ_ ps q=>⟨#[],by rw[q];simp⟩⟩
theorem Un.refl:Un fs ex H H h h:=Un.kept (gL q)
theorem Un.laid(k:∀b u,aI h b=sO u->aI h' b=sO u)(f:zM1)(c:H a=nO):Un fs ex H (lG a) h h' where
 keep:=λb u q _ _ _=>k b u q
 slot:=jx1 u q
 free:=λb u q n _=>by rw[QE (NY (Np (ND q) f))];exact n
 there:=λb u q _=>⟨u,k b u q⟩
 tups:=λb d q=>yG q c
 frzs:=λb u d q=>yG q c
 tbls:=λb ps q=>⟨#[],by rw[QE (Zo q c),q];simp⟩
theorem Un.write(d:Mut (H x))(m:e=x\/H e=rL x)(k:∀b u,b≠e->aI h b=sO u->aI h' b=sO u)(g:∃u,aI h' e=sO u):Un fs ex H (lG x) h h':=by
 have i:∀b,gM->b≠x:=λb n z=>zz0 n d
 have j:∀b,gM->b≠e:=λb n z=>by
  subst z
  show iP m r
  ·exact i b n r
  ·show bT n r
 have f:∀b u,Ae->¬Mut (sO u)->b≠x:=λb u q nm z=>by subst z;rw[q]at d;exact nm d
 refine⟨λb u q n _ _=>k b u (j b n) q,λb u q n _ _=>⟨u.slots,k b u (j b n) q⟩,λb u q n _=>by rw[QE (i b n)];exact n,λb u q _=>?_,
  λb l q=>by rw[zA1];exact q,λb u l q=>by rw[zA1];exact q,λb ps q=>⟨#[],by rw[zA1,q];simp⟩⟩
 by_cases c:b=e
 ·subst c;exact g
 ·exact⟨u,k b u c q⟩
#print "-"
noncomputable def trk(h:Heap)(H:Hp):cV:=(List.range h.objs.size).filter λa=>(H a).isSome
noncomputable def QhM(h:Heap)(H:Hp):Heap:=PySem.W.hideAll h (trk h H)
theorem QeD(h:Heap)(H:Hp):(QhM h H).objs.size=h.objs.size:=PySem.W.hideAll_size _ _
theorem Qim{h:Heap}{H:Hp}{b:Addr}{o:Obj}(e:aI h b=sO o)(n:gM):zG6=sO o:=
 PySem.W.hideAll_get _ e λa=>by
  have q:(H b).isSome=true:=(FP.mp a).2;show rM n q
theorem Qly{h:Heap}{H:Hp}{b:Addr}{o:Obj}(e:zG6=sO o):aI h b=sO o/\gM:=by
 have a:aI h b=sO o:=PySem.W.of_hideAll (trk h H) e;show Aq a;cases q:H b with
 |none=>rfl
 |some x=>
  have c:b∈trk h H:=FP.mpr ⟨Ek.mpr (ND a),oO q⟩;have z:zG6=nO:=PySem.W.hideAll_none (trk h H) c;show bT z e
structure Mod(K:Nd)(mg:c')(base:Heap):Prop where
 kin:K.In base
 glob:base.Ns mainGlobals mg
 blt:∃mb,base.Ns builtinsNs mb/\∀x:Str,qR->mb x=qS
 nolimit:base.NoLimit
structure Cx where
 prog:Program
 w:World
 K:Nd
 mg:c'
 base:Heap
 A:Around
 N:aD
 s₀:Shared
 H₀:Hp
 env:Env
 outer:fT
 stack:fT
 ex:cV
 fn:Str->Bool
 calm:Bool
 pn:bP
 xe:bI
noncomputable def frs(l:fT):cV:=l.filterMap (·.frame)
noncomputable abbrev Cx.fs(X:Cx):cV:=frs X.outer
def Vis(a:Scope)(x:Str):Prop:=tY a x=nI\/tY a x=lF\/tY a x=nM
def Loc(a:Scope)(x:Str):Prop:=tY a x=nI\/tY a x=lF
def QsM(env:Env)(h:Heap)(m:c')(x:Str)(u:Value):Prop:=
 (Pp x=nI/\m x=sO u)\/((Pp x=lF\/Pp x=nM)/\∃c,env.cells.lookup x=sO c/\h.IsCell c (sO u))
structure Cx.Ok(X:Cx):Prop where
 mod:Mod X.K X.mg X.base
 kind:X.env.scope.kind=.function
 glob:X.env.globals=mainGlobals
 blt:X.env.builtins=builtinsNs
 above:X.s₀.heap.objs.size<=X.env.locals
 inj:∀x y c,kC->zG7 y=sO c->x=y
 has:∀x,(wH x=lF\/wH x=nM)->∃c,kC
 cab:∀x c,X.fn x=true->kC->X.s₀.heap.objs.size<=c
 hd:gR->X.A.handled=nO
 frames:X.A.frames=sO X.stack
 stk:X.stack=X.outer\/(zw9/\zt9)
 exf:∀b∈X.ex,tD/\∀x c,kC->c≠b
 bs:∀b o,HN->Ss/\X.H₀ b=nO
 bsz:X.base.objs.size<=X.s₀.heap.objs.size
 noex:∀b o,HN->b∉X.ex
 exfs:∀b∈X.ex,b∉X.fs
 funs:X.s₀.heap.FunFrames X.base X.outer
 frf:∀b∈X.fs,X.H₀ b=nO
structure Inv(X:Cx)(pins:bP)(σ:ze5 V)(H:Hp)(s:Shared):Prop where
 ok:X.Ok
 os:s.os=X.s₀.os
 bare:zL s
 base:Un X.fs X.ex X.H₀ H X.s₀.heap s.heap
 loc:∃m,jx2/\∀(i:Nat) (x:Str) (v:V),kJ->σ[i]?=sO j1->Be->∃u,dJ v/\QsM X.env s.heap m x u
 cell:∀x c,kC->∃v,s.heap.IsCell c v
 free:H X.env.locals=nO
 freeC:∀x c,kC->H c=nO
 pin:∀p∈Pa,zT9
 hok:HOk X.prog X.w H s.heap
 len:σ.length=X.N.length
section
variable{X:Cx}{pins:bP}{σ:ze5 V}{H H':Hp}{s:Shared}{h':Heap}
theorem Cx.Ok.nofr(ok:X.Ok){b:Addr}{o:Obj}(e:HN):b∉X.fs:=λa=>by
 have:=(ok.funs.mem a).1;show oB e
theorem Inv.bs(I:cQ):∀b o,HN->bK b=sO o/\gM:=λb o e=>
 ⟨I.base.keep b o (I.ok.bs b o e).1 (I.ok.bs b o e).2 (I.ok.nofr e) (I.ok.noex b o e),I.base.free b o (I.ok.bs b o e).1 (I.ok.bs b o e).2 (I.ok.noex b o e)⟩
theorem Inv.bk(I:cQ):∀b o,HN->bK b=sO o:=zE0 I
theorem Inv.mod(I:cQ):Mod X.K X.mg X.base:=I.ok.mod
theorem Inv.kIn(I:cQ):X.K.In s.heap:=I.ok.mod.kin.keeps I.bk
theorem Inv.lt(I:cQ):X.env.locals<s.heap.objs.size:=let⟨_,a,_⟩:=I.loc;a.lt
theorem Inv.sz(I:cQ):X.s₀.heap.objs.size<=s.heap.objs.size:=Ng I.ok.above (Nv I.lt)
theorem Inv.nofs(I:cQ){a:Addr}(h:s.heap.objs.size<=a):a∉X.fs:=λc=>by
 obtain⟨_,o,b,_⟩:=I.ok.funs.mem c;exact absurd (Np (ND b) (Ng I.sz h)) (Dc _)
theorem Inv.cne(I:cQ):∀x c,kC->c≠X.env.locals:=λx c e z=>by
 obtain⟨v,o,d,hd⟩:=rT I x;obtain⟨m,⟨f,g,h,a,b,_⟩,_⟩:=I.loc;rw[z,a]at d;cases d;rw[b]at hd;cases hd
theorem Inv.funs(I:cQ):s.heap.FunFrames X.base X.outer:=by
 have all:∀(l:fT),(∀b∈frs l,b∈X.fs)->X.s₀.heap.FunFrames X.base l->s.heap.FunFrames X.base l:=by
  intro l
  induction l with
  |nil=>intro _ _;trivial
  |cons p r g=>
   intro f m;obtain⟨n,⟨L,o,a,j,i,hd⟩,h⟩:=m;have d:L∈X.fs:=f L (by unfold frs;rw[D8,a];exact NG);obtain⟨t,e⟩:=I.base.slot L o i (I.ok.frf L d) d λz=>I.ok.exfs L z d;exact⟨n,⟨L,_,a,j,e,hd⟩,g (λb c=>f b (by unfold frs;rw[D8,a];exact Nt _ c)) h⟩
 exact all X.outer (λ_ c=>c) I.ok.funs
theorem Inv.stack(I:cQ):s.heap.FunFrames X.base X.stack:=by
 rcases I.ok.stk with e|⟨e,b⟩
 ·rw[e];exact I.funs
 ·rw[e];obtain⟨m,a,_⟩:=I.loc;refine .cons (by rw[I.ok.kind];decide) b a ?_ I.funs;exact Dl (Ng I.ok.bsz I.ok.above)
theorem Inv.stkSub(I:cQ):∀b∈frs X.stack,b∈X.env.locals::X.fs:=λb a=>by
 rcases I.ok.stk with e|⟨e,c⟩
 ·rw[e]at a;exact Nt _ a
 ·rw[e]at a;unfold frs at a;rw[D8,c]at a;exact a
theorem Inv.stkFree(I:cQ):∀b∈frs X.stack,gM:=λb a=>by
 rcases NC.mp (I.stkSub b a)with e|a
 ·rw[e];exact I.free
 ·obtain⟨_,o,c,_⟩:=I.ok.funs.mem a;exact I.base.free b o c (I.ok.frf b a) λz=>I.ok.exfs b z a
theorem Inv.step{g':Mc}{t':Nat}{d':Drawn}{ch:cV}(I:cQ)
  (g:∀b∈ch,RK/\tD/\(∀x c,kC->c≠b)/\∀p∈Pa,p.1≠b)
  (keep:∀b o,tD->b∉X.fs->xO->bK b=sO o->gM->aI h' b=sO o)
  (slot:∀b o,tD->b∈X.fs->xO->bK b=sO o->gM->∃J,aI h' b=sO { o with slots:=J }) (free:∀b o,xO->bK b=sO o->gM->H' b=nO)
  (there:∀b o,xO->bK b=sO o->∃o',aI h' b=sO o')
  (B:∀b xs,H b=sO nF->H' b=sO nF) (E:∀b o u,H b=Mp->H' b=Mp) (C:zW8)
  (ns:∀m,jx2->h'.Ns X.env.locals m) (L:V4 H') (T:AllBare g') :
  Inv X pins σ H' { s with heap:=h',gens:=g',drawn:=d',toks:=t' }:=by
 have D:∀b o,Ss->tD:=λb o e=>NY Ht
 have j:∀b o,Ss->b∉X.ex->xO:=λb o e a y=>by
  rcases(g b y).1 with z|z
  ·exact a z
  ·exact absurd (Np nP z) (Dc _)
 have h:∀x c,kC->∀v,s.heap.IsCell c v->h'.IsCell c v:=λx c e v ⟨o,A,hd⟩=>by
  have f:c∉ch:=λz=>jA0
  by_cases O:c∈X.fs
  ·obtain⟨J,q⟩:=slot c o (I.cne x c e) O f A zG8;exact⟨_,q,hd⟩
  ·exact⟨o,keep c o (I.cne x c e) O f A zG8,hd⟩
 refine⟨I.ok,I.os,T,⟨fB b o e n y a,fB b o e n y a,λb o e n a=>?_,fC b o e a,λb xs e=>B b xs (I.base.tups b xs e),λb o xs e=>E b o xs (I.base.frzs b o xs e),λb ps e=>?_⟩,?_,aP x c e,?_,aP x c e,bQ p N,L,I.len⟩
 ·exact keep b o (D b o e) y ze6 (TM y a) zv1
 ·obtain⟨J,t⟩:=TN y a;obtain⟨G,F⟩:=slot b _ (D b o e) y ze6 t zv1;show lL G F
 ·show HB o' t a;exact free b o' ze6 t zv1
 ·show HB o' t a;exact there b o' ze6 t
 ·obtain⟨Q,t⟩:=I.base.tbls b ps e;obtain⟨P,F⟩:=C b _ t;exact⟨Q++P,by rw[F,Array.append_assoc]⟩
 ·obtain⟨m,R,S⟩:=I.loc;refine⟨m,ns m R,fB i x v t F U⟩;obtain⟨u,r,l⟩:=S i x v t F U;show rW u r
  rcases l with l|⟨k,c,e,z⟩
  ·exact dU l
  ·exact .inr ⟨k,c,e,h x c e _ z⟩
 ·obtain⟨v,z⟩:=rT I x;exact⟨v,h x c e v z⟩
 ·obtain⟨m,⟨o,_,_,A,_⟩,_⟩:=I.loc;exact free _ o (λz=>(g _ z).2.1 rfl) A I.free
 ·obtain⟨v,o,A,hd⟩:=rT I x;exact free c o (λz=>jA0) A zG8
 ·obtain⟨e,n,ne,M,d⟩:=I.pin p N;have f:p.1∉ch:=λz=>(g p.1 z).2.2.2 p N rfl;exact⟨keep p.1 p.2 ne M f e n,free p.1 p.2 f e n,ne,M,d⟩
theorem Inv.un{t':Nat}(I:cQ)(u:Un X.fs [] H H' s.heap h')(c:V4 H'):RH H':=by
 obtain⟨m,⟨o,y,A,h,r⟩,_⟩:=id I.loc;obtain⟨p,l⟩:=u.any h I.free aF
 exact I.step (g':=s.gens) (d':=s.drawn) (ch:=[]) (λ_ z=>uN z) (λb o _ d _ e n=>u.keep b o e n d aF) (λb o _ d _ e n=>u.slot b o e n d aF) (λb o _ e n=>u.free b o e n aF) (λb o _ e=>u.there b o e aF) u.tups u.frzs u.tbls (λv j=>by
  show cA t f g a i j;show bT h a
  exact⟨_,f,g,l,i⟩) c I.bare
theorem Inv.call{g':Mc}{t':Nat}{d':Drawn}{ch:cV}(I:cQ)(u:Un (frs X.stack) ch H H' s.heap h')(g:V4 H')(y:AllBare g')
  (f:∀b∈ch,RK/\tD/\(∀x c,kC->c≠b)/\∀p∈Pa,p.1≠b) :
  Inv X pins σ H' { s with heap:=h',gens:=g',drawn:=d',toks:=t' }:=by
 obtain⟨m,⟨o,E,F,l,r⟩,_⟩:=id I.loc;obtain⟨B,h⟩:=u.any l I.free λz=>(f _ z).2.1 rfl
 exact I.step (ch:=ch) f (λb o h A a e n=>u.keep b o e n (λz=>(NC.mp (I.stkSub b z)).elim h A) a) (λb o _ _ a e n=>u.any e n a) (λb o a e n=>u.free b o e n a) (λb o a e=>u.there b o e a) u.tups u.frzs u.tbls (λD v=>by
  show cA C i j d t v;show bT l d
  exact⟨_,i,j,h,t⟩) g y
theorem Inv.turned{t':Nat}{it:Addr}(I:cQ)(k:∀b o,b≠it->bK b=sO o->aI h' b=sO o)(h:H it=nO)(f:it≠X.env.locals)
  (h1:it∈X.ex\/X.s₀.heap.objs.size<=it) (t:∀x c,kC->c≠it) (l:∀p∈Pa,p.1≠it):RH H:=by
 have d:∀b u,Ae->b≠it:=λb u e z=>BD z h e
 refine I.step (g':=s.gens) (d':=s.drawn) (ch:=[it]) (mK b j) (λb o _ _ a e _=>k b o (l6 a) e) (λb o _ _ a e _=>⟨o.slots,k b o (l6 a) e⟩) (λ_ _ _ _ n=>n)
  (λb o a e=>⟨o,k b o (l6 a) e⟩) (xB e) (Co e) (λb ps e=>⟨#[],by rw[e];simp⟩) (mK m i) (jJ b u e) I.bare
 ·have e:b=it:=cL j
  subst e;exact⟨h1,f,t,l⟩
 ·show cA o w y g r i;exact⟨o,w,y,k _ o (EB f) g,r⟩
 ·refine(I.hok b u e).stay (zP0 a q) P0 (gL q)
  show iP a z
  ·rw[z];exact d b u e
  ·exact d c _ z
theorem Inv.tok(I:cQ)(t:Nat):Inv X pins σ H { s with toks:=t }:=I.un (h':=s.heap) (t':=t) Un.refl I.hok
theorem Inv.kept{t':Nat}(I:cQ)(k:∀b u,bK b=sO u->aI h' b=sO u):RH H:=I.un (Un.kept k) (I.hok.kept k)
theorem Inv.laid{a:Addr}{o:HO}{t':Nat}(I:cQ)(k:∀b u,bK b=sO u->aI h' b=sO u)(c:s.heap.objs.size<=a)(new:ObjOk X.prog X.w (lG a) h' a o) :
  Inv X pins σ (lG a) { s with heap:=h',toks:=t' }:=I.un (Un.laid k c (I.hok.fresh c)) (I.hok.laid k c new)
theorem Inv.write{x e:Addr}{o:HO}{t':Nat}(I:cQ)(c:Mut (H x))(d:e=x\/H e=rL x)(k:∀b u,b≠e->bK b=sO u->aI h' b=sO u)(a:∃u,aI h' e=sO u)
  (new:ObjOk X.prog X.w (lG x) h' x o):Inv X pins σ (lG x) { s with heap:=h',toks:=t' }:=I.un (Un.write c d k a) (I.hok.write c d k a new)
theorem Inv.pins_of{pins':bP}(I:cQ)(h:∀p∈pins',zT9):Inv X pins' σ H s:=
 ⟨I.ok,I.os,I.bare,I.base,I.loc,I.cell,I.free,I.freeC,λp a=>(NQ.mp a).elim (λz=>I.pin p (Ee _ z)) (h p),I.hok,I.len⟩
theorem GW{N:aD}(hN:N.Nodup){i j:Nat}{x:Str}(a:N[i]?=sO x)(b:N[j]?=sO x):i=j:=by
 obtain⟨f,d⟩:=Nh.mp a;obtain⟨e,c⟩:=Nh.mp b;exact(LD hN).mp (d.trans c.symm)
theorem Qa5{M:Model}{A:Around}{E:bI}{i:Nat}{x:Str}{v:V}{u:Value}{Q:Unit->cS}(I:cQ)(hN:X.N.Nodup)(hi:kJ)(B:n')(r:dJ v)
  (h:∀s',Inv X pins (σ.set i j1) H s'->(∃a,Heap.SameBut a s.heap s'.heap/\(a=X.env.locals\/zG7 x=sO a))->Q () s') (hf:nW:=by show uZ):wpAny M A (zI9 u) Q E s:=by
 obtain⟨m,hn,hl⟩:=id I.loc;have S:(X.env.scope.kind==.class ||(X.env.scope.kind==.module&&X.env.locals != X.env.globals))=false:=by rw[I.ok.kind];rfl
 have G:i<σ.length:=jl1
 have cne:=I.cne
 have g:∀{a:Addr} {h':Heap},(∃o,bK a=sO o/\H a=nO)->lQ a->V4 H:=λ{a h'} ha f b ob e=>by
  obtain⟨_,_,C⟩:=ha;refine(I.hok b ob e).stay (λc Y t q=>(f.2 c ?_).trans q) P0 (gL q)
  rintro rfl
  show PH t
  ·show bT C e
  ·show bT C t
 show iP B F
 ·refine wpAny_storeName_local F hn (λh' ab f=>?_) S;obtain⟨oL,_,_,aa,_⟩:=id hn;refine h _ ⟨I.ok,I.os,I.bare,zT5,⟨_,ab,fB j y v' l D e3⟩,aP y c e,I.free,I.freeC,λp hp=>?_,g ⟨oL,aa,I.free⟩ f,zz1⟩ ⟨_,f,uG⟩
  ·exact(f.2 b (NY Ht)).trans (TM O B)
  ·obtain⟨sl,l⟩:=TN O B;exact⟨sl,(f.2 b (NY Ht)).trans l⟩
  ·show HB o' l B;exact⟨o',(f.2 b (NY Ht)).trans l⟩
  ·by_cases J:j=i
   ·show jj1;exact⟨u,r,.inl ⟨F,aY⟩⟩
   ·rw[DD (EB J)]at D;obtain⟨u',r',q⟩:=hl j y v' l D e3;show rW u' r'
    rcases q with⟨k,e⟩|⟨k,c,e,z⟩
    ·refine .inl (xU k);have:y≠x:=λe=>J (GW hN l (e▸hi));simp[this,e]
    ·exact .inr ⟨k,c,e,jA1⟩
  ·obtain⟨Y,z⟩:=rT I y;exact⟨Y,jA1⟩
  ·obtain⟨e,n,ne,nf,d⟩:=I.pin p hp;exact⟨(f.2 p.1 ne).trans e,n,ne,nf,d⟩
 ·have L:X.fn x=true:=by
   rcases hf with z|z
   ·exact z
   ·show bT z F
  obtain⟨c,t⟩:=I.ok.has x (iS F);obtain⟨Y,z⟩:=I.cell x c t;refine wpAny_storeName_cell I.ok.kind F t z (jJ h' U f);obtain⟨oc,R,P⟩:=id z;refine h { s with heap:=h' } ⟨I.ok,I.os,I.bare,zT5,⟨m,hn.sameBut f (EB (cne x c t)),fB j y v' l D e3⟩,aP y Z e,I.free,I.freeC,λp hp=>?_,g ⟨oc,R,I.freeC x c t⟩ f,zz1⟩ ⟨c,f,gY t⟩
  ·exact(f.2 b zq8).trans (TM O B)
  ·obtain⟨sl,l⟩:=TN O B;exact⟨sl,(f.2 b zq8).trans l⟩
  ·show HB o' l B;exact⟨o',(f.2 b zq8).trans l⟩
  ·by_cases J:j=i
   ·show jj1;exact⟨u,r,.inr ⟨dU F,c,t,U⟩⟩
   ·rw[DD (EB J)]at D;obtain⟨u',r',q⟩:=hl j y v' l D e3;show rW u' r'
    rcases q with q|⟨k,Z,e,z'⟩
    ·exact dU q
    ·refine .inr ⟨k,Z,e,z'.sameBut f ?_⟩
     rintro rfl
     exact J (GW hN l (I.ok.inj _ _ _ e t▸hi))
  ·by_cases T:Z=c
   ·subst T;show kU U
   ·obtain⟨w2,z2⟩:=I.cell y Z e;exact⟨w2,z2.sameBut f T⟩
  ·obtain⟨e,n,ne,nf,d⟩:=I.pin p hp;refine⟨(f.2 p.1 ?_).trans e,n,ne,nf,d⟩;intro q;rw[q,R]at e;have q':oc=p.2:=Eo e;exact d Y (BP q' P)
theorem WN{M:Model}{A:Around}{E:bI}{i:Nat}{x:Str}{v:V}{u:Value}{Q:Unit->cS}(I:cQ)(hN:X.N.Nodup)(hi:kJ)(b:n')(r:dJ v)
  (h:∀a,Inv X pins (σ.set i j1) H a->Q () a) (c:nW:=by show uZ):wpAny M A (zI9 u) Q E s:=
 Qa5 I hN hi b r (λa d _=>h a d) c
theorem Inv.call'{a:Shared}{ch:cV}(I:cQ)(l:a.os=s.os)(u:Un (frs X.stack) ch H H' s.heap a.heap)(d:HOk X.prog X.w H' a.heap)(m:zL a)
  (f:∀b∈ch,RK/\tD/\(∀x c,kC->c≠b)/\∀p∈Pa,p.1≠b):B' H' a:=by
 show cA h' h i g j a;have e:j=s.os:=l;subst e;exact I.call (g':=h) (t':=g) (d':=i) u d m f
#print "-"
noncomputable abbrev XK:=Value->dW->dQ
noncomputable abbrev St:=ze5 V
noncomputable abbrev VK:=V->dQ
noncomputable abbrev TE:=St->fR
noncomputable abbrev TT:=St->Hp->(Bool->dQ)->Prop
noncomputable abbrev TA:=St->Hp->(bD->dQ)->Prop
structure Ends where
 nx:St->dQ
 rt:VK
 bk:St->dQ:=wD
 ct:St->dQ:=wD
noncomputable abbrev TS:=Ends->St->dQ
def EP(X:Cx)(a:bP)(σ:St)(Q:VK)(u:Value)(c:Shared):Prop:=∃v b,iG a σ b c/\dJ v/\Q v b
def TP(X:Cx)(a:bP)(σ:St)(Q:Bool->dQ)(b:Bool)(d:Shared):Prop:=∃c,iG a σ c d/\Q b c
def AP(X:Cx)(a:bP)(σ:St)(Q:bD->dQ)(us:aZ)(d:Shared):Prop:=∃b c,iG a σ c d/\Vals b us/\Q b c
def SP(X:Cx)(b:bP)(D:Ends)(f:Flow)(d:Shared):Prop:=
 match f with
 |.next=>∃a c,iG b a c d/\D.nx a c
 |.brk=>∃a c,iG b a c d/\D.bk a c
 |.cont=>∃a c,iG b a c d/\D.ct a c
 |.ret u=>∃v a c,iG b a c d/\dJ v/\D.rt v c
def PE(X:Cx)(e:Expr)(t:TE):Prop:=
 ∀(a:bP) (s:Shared) (b:St) (H:Hp) (Q:VK),cF a b->uX b->wpAny bZ X.A (iC e) tU X.xe s
def PT(X:Cx)(e:Expr)(t:TT):Prop:=
 ∀(a:bP) (s:Shared) (b:St) (H:Hp) (Q:Bool->dQ),cF a b->uX b->wpAny bZ X.A (isTrue e X.env (iC e)) zP1 X.xe s
def PW(X:Cx)(e:Expr)(t:TT):Prop:=
 ∀(whole:Pq) (a:bP) (s:Shared) (b:St) (H:Hp) (Q:Bool->dQ),cF a b->uX b->wpAny bZ X.A (isTrue e X.env whole) zP1 X.xe s
theorem PW.pt{X:Cx}{e:Expr}{t:TT}(h:PW X e t):PT X e t:=h _
def PA(X:Cx)(es:eE)(t:TA):Prop:=
 ∀(pos:Pos) (a:bP) (s:Shared) (b:St) (H:Hp) (Q:bD->dQ),cF a b->uX b->wpAny bZ X.A (spliced (backTo pos qE)) (AP X a b Q) X.xe s
def PS(X:Cx)(st:Stmt)(t:TS):Prop:=
 ∀(a:bP) (s:Shared) (b:St) (H:Hp) (D:Ends),cF a b->t D b H->wpAny bZ X.A (exec st X.env) (SP X a D) X.xe s
def PSs(X:Cx)(st:jX)(t:TS):Prop:=
 ∀(a:bP) (s:Shared) (b:St) (H:Hp) (D:Ends),cF a b->t D b H->wpAny bZ X.A (execs st X.env) (SP X a D) X.xe s
theorem thn{b:Type}{t:Sem b}{Q Q':b->cS}{M:Model}{A:Around}{E:bI}{s:Shared}(h:zi0 t Q)(c:∀a s,Q a s->Q' a s):zi0 t Q':=NZ h c (gL x)
section
variable{X:Cx}
theorem bin{a b:Expr}{o n:TE}(E:PE X a o)(D:PE X b n){c:bP}{s:Shared}{σ:St}{H:Hp}{R:V->V->dQ}(I:cF c σ)(h:o σ H λx l=>n σ l λy d=>R x y d)
  {m:Type} {Q:m->cS} {f:Value->Value->Sem m}
  (C:∀v u i x y d,iG c σ d i->nL->dJ y->R x y d->wpAny bZ X.A (f v u) Q X.xe i) :
  wpAny bZ X.A (iC a) (λv g=>wpAny bZ X.A (iC b) (λu e=>wpAny bZ X.A (f v u) Q X.xe e) X.xe g) X.xe s:=by
 refine thn (eW E c σ) (aP v p j);show cA x l I1 t B j;refine thn (D c p σ l _ I1 B) (aP u i j);show cA y d I2 r z j;exact C v u i x y d I2 t r z
noncomputable def QrX(i:Nat):TE:=λa H Q=>∃v,a[i]?=sO j1/\Q v H
noncomputable def tC(v:V):TE:=λ_ H Q=>Q v H
theorem QjS{i:Nat}{x:Str}{pos:Pos}(hN:kJ)(n:Be)(hd:gB:=by decide)(f:zs2:=by decide):PE X mX (QrX i):=by
 show cZ d j Q;obtain⟨v,e,h⟩:=h;obtain⟨m,o,t⟩:=I.loc;obtain⟨u,r,l⟩:=t i x v hN e n;have fin:EP X d j Q u s:=zJ0
 rcases l with⟨b,p⟩|⟨b,c,g,a⟩
 ·exact wpAny_Name (OE I.ok.kind b o p fin) hd
 ·show kP b
  ·exact wpAny_Name (OZ I.ok.kind b g a fin) hd
  ·exact wpAny_Name (wpAny_loadName_free I.ok.kind b g a fin f) hd
theorem Qpg{i j pos}:PE X (.Constant d3 j pos) (tC d3):=λ_ _ _ H _ I h=>wpAny_Constant_int ⟨aL i,H,gJ,cN,h⟩
theorem QpU{b j pos}:PE X jm7 (tC pP):=λ_ _ _ H _ I h=>Constant_bool ⟨.bl b,H,I,rfl,h⟩
theorem QnT{j pos}:PE X jt9 (tC .non):=λ_ _ _ H _ I h=>Constant_none ⟨.non,H,I,rfl,h⟩
theorem QgX{x j pos}:PE X (.Constant cM j pos) (tC cM):=λ_ _ _ H _ I h=>Ff ⟨aJ x,H,gJ,cN,h⟩
def Gl(X:Cx)(x:Str):Prop:=wH x=sO .globalImplicit
theorem Yx{E:bI}{a:bP}{s:Shared}{σ:St}{H:Hp}{x:Str}{u:Value}{pos:Pos}{Q:bI}(I:cF a σ)(c:jI)(b:mH=sO u)(h:Q u s)
  (hd:gB:=by decide):wpAny bZ X.A (eval mX X.env) Q E s:=
 Lj I.ok.kind c (Calls.loadGlobal_global zZ6 b h) hd
theorem Ka{E:bI}{a:bP}{s:Shared}{σ:St}{H:Hp}{x:Str}{u:Value}{pos:Pos}{Q:bI}(I:cF a σ)(e:jI)(d:mH=nO)(b:qS=sO u)(h:Q u s)
  (c:qR:=by decide) (hd:gB:=by decide):wpAny bZ X.A (eval mX X.env) Q E s:=by
 obtain⟨i,g,f⟩:=I.mod.blt;exact Lj I.ok.kind e (Calls.loadGlobal_builtin zZ6 d (by rw[I.ok.blt];exact g.keeps I.bk) ((f x c).trans b) h) hd
theorem Ki{x:Str}{v:V}{u:Value}{pos:Pos}(b:jI)(a:mH=sO u)(r:dJ v)(hd:gB:=by decide):PE X mX (tC v):=
 λ_ _ _ H _ I h=>Yx I b a zJ0 hd
theorem QgI{x:Str}{v:V}{u:Value}{pos:Pos}(d:jI)(c:mH=nO)(a:qS=sO u)(r:dJ v)(b:qR:=by decide)(hd:gB:=by decide):PE X mX (tC v):=
 λ_ _ _ H _ I h=>Ka I d c a zJ0 b hd
variable{a b:Expr}{ta tb:TE}{pos:Pos}
noncomputable def tB(t:TE):TT:=jg6 c
theorem Qgh{e:Expr}{t:TE}(h:PE X e t)(l:∀whole,zG9 e=(zo0 e):=by intro _;rfl):PT X e (tB t):=by
 intro c s f H Q I hw;refine isTrue_plain (thn (h c s f H _ I hw) (aP v n g)) (l _);show cA x m I1 i j g;obtain⟨d,rfl,q⟩:=j;cases i;exact Dd ⟨m,I1,q⟩
variable{tA tB':TT}{rest:eE}
noncomputable def Qsn(t u:TT):TT:=λd H Q=>t d H λc e=>if pX then u d e Q else Q false e
noncomputable def tOr(t u:TT):TT:=λd H Q=>t d H λc e=>if pX then Q true e else u d e Q
noncomputable def QsQ(t:TT):TT:=λd H Q=>t d H λc e=>Q (!c) e
theorem QfX(g:Pr):PW X jx3 tA:=by
 intro i d s f H Q I h;refine isTrue_and (thn (g d s f H Q I h) (aP c j e));cases c with
 |true=>exact isTrue_and_nil e
 |false=>exact e
theorem Qnu(g:Pr):PW X jA2 tA:=by
 intro i d s f H Q I h;refine isTrue_or (thn (g d s f H Q I h) (aP c j e));cases c with
 |false=>exact isTrue_or_nil e
 |true=>exact e
theorem QfR(m:Pr)(l:PW X S4 tB'):PW X RV (Qsn tA tB'):=by
 intro i d s e H Q I h;refine isTrue_and (thn (eW m d e) λc j ⟨g,I1,f⟩=>?_);cases c with
 |true=>exact l i d j e g Q I1 f
 |false=>exact⟨g,I1,f⟩
theorem Qp9(m:Pr)(l:PW X jm8 tB'):PW X jj2 (tOr tA tB'):=by
 intro i d s e H Q I h;refine isTrue_or (thn (eW m d e) λc j ⟨g,I1,f⟩=>?_);cases c with
 |true=>exact⟨g,I1,f⟩
 |false=>exact l i d j e g Q I1 f
theorem Qjg(f:Pr):PT X SD (QsQ tA):=by
 show cZ d e Q;exact isTrue_not (f d s e H (λc g=>Q (!c) g) I h)
noncomputable def QqI(ta tb:TE):TE:=λd H Q=>ta d H λx e=>∃c,x=.bl c/\if pX then tb d e Q else Q wI e
noncomputable def QqK(ta:TE):TE:=λd H Q=>ta d H λx e=>∃c,x=.bl c/\Q (.bl (!c)) e
theorem Qpa{op}{t:TE}(h:PE X a t):PE X (.BoolOp op [a] pos) t:=λc s d H Q I hw=>BoolOp_one (h c s d H Q I hw)
theorem QnR(n:nJ)(m:PE X S4 tb):PE X RV (QqI ta tb):=by
 show cZ d f Q;refine BoolOp_and (thn (eW n d f) (aP v j i));show cA x g I1 l e i;obtain⟨c,rfl,e⟩:=e;cases l;refine Dd ?_;cases c with
 |true=>exact m d j f g Q I1 e
 |false=>exact⟨iN,g,I1,rfl,e⟩
theorem QnC(j:nJ):PE X SD (QqK ta):=by
 show cZ d f Q;refine UnaryOp_ (thn (eW j d f) (aP v m g));show cA x l I1 i e g;obtain⟨c,rfl,e⟩:=e;cases i;exact not_of (Dd ⟨.bl (!c),l,I1,rfl,e⟩)
noncomputable def tIf(t:TT)(ta tb:TE):TE:=λd H Q=>t d H λc e=>if pX then ta d e Q else tb d e Q
theorem Qh6{c:Expr}(l:PT X c tA)(n:nJ)(m:uA):PE X (.IfExp c a b pos) (tIf tA ta tb):=by
 show cZ e f Q;refine wpAny_IfExp (thn (eW l e f) λd g ⟨j,I1,i⟩=>?_);cases d with
 |true=>exact n e g f j Q I1 i
 |false=>exact m e g f j Q I1 i
#print "-"
def SqL(K:Nd)(H:Hp)(a:Addr)(xs:bD):Prop:=
 Rd H a iD \/
  ∃(o:Obj) (b:dC) (n:Nat),iF a=sO o/\o.cls=eC/\o.dict=nO/\zY6
def SqT(K:Nd)(H:Hp)(a:Addr)(xs:bD):Prop:=
 Rd H a nF \/
  ∃(o:Obj) (b:dC) (n:Nat),iF a=sO o/\o.cls=jO/\zY6
noncomputable def QsA:Value->kA V
 |.none=>sO .non
 |.bool b=>sO pP
 |.int i _=>aS i
 |.str x _=>bA x
 |.bytes b _=>sO (.byt b)
 |.float b _=>sO (.flt b)
 |aG a=>sO (aC a)
 |Al=>sO (.ty n)
 |_=>nO
theorem RelV.abs{x:V}{u:Value}(r:dJ x):QsA u=sO x:=by
 cases x with
 |non=>cases r;rfl
 |bl _=>cases r;rfl
 |int _=>show aO t r;rfl
 |str _=>show aO t r;rfl
 |byt _=>show aO t r;rfl
 |flt _=>show aO t r;rfl
 |ref _=>cases r;rfl
 |ty _=>cases r;rfl
theorem RelV.inj{x y:V}{u:Value}(r:dJ x)(q:dJ y):x=y:=Eo (r.abs.symm.trans q.abs)
theorem Vals.inj{xs ys:bD}{us:aZ}(a:lC)(b:Vals ys us):xs=ys:=by
 induction a generalizing ys with cases b
 |nil=>rfl
 |cons r t e=>rename_i d c;rw[r.inj d,e c]
section
variable{X:Cx}{pins:bP}{σ:St}{H:Hp}{s:Shared}{a:Addr}{xs ys:bD}
theorem SqL.of{K:Nd}(h:H a=sO iD):Ps H:=.inl (iS h)
theorem SqT.of{K:Nd}(h:H a=sO nF):SqT K H a xs:=.inl (iS h)
theorem Inv.list(I:cQ)(h:za8):∃b:aZ,xJ b/\PlainL s.heap a b.toArray/\yI:=by
 rcases h with h|⟨o,b,n,f,g,hd,d,c,r⟩
 ·obtain⟨z,b,n,r,e⟩:=h.ok I.hok;exact⟨b,r,⟨_,n,e,rfl,rfl,rfl⟩,z⟩
 ·refine⟨b.toList,r,⟨o,n,I.kIn a o f,g,hd,cL d⟩,?_⟩;show g6 e r;simp only[NR]at e;exact Ng (Nu e) c
theorem Inv.tuple(I:cQ)(h:za9):∃b:aZ,xJ b/\IsTup s.heap a b.toArray/\yI:=by
 rcases h with h|⟨o,b,n,f,g,d,c,r⟩
 ·obtain⟨z,b,r,p⟩:=h.ok I.hok;exact⟨b,r,p,z⟩
 ·refine⟨b.toList,r,⟨o,I.kIn a o f,g,n,cL d⟩,?_⟩;show g6 e r;simp only[NR]at e;exact Ng (Nu e) c
theorem Inv.list_inj(I:cQ)(h:za8)(h':BY a):xs=ys:=by
 obtain⟨c,r,⟨o,n,e,_,_,d⟩,_⟩:=f0 h;obtain⟨b,i,⟨l,m,f,_,_,g⟩,_⟩:=f0 h';show bT e f;show zV9
 subst this;exact r.inj i
theorem Inv.tuple_inj(I:cQ)(h:za9)(h':zM a):xs=ys:=by
 obtain⟨c,r,⟨o,e,_,n,d⟩,_⟩:=eQ h;obtain⟨b,i,⟨l,f,_,m,g⟩,_⟩:=eQ h';show bT e f;show zV9
 subst this;exact r.inj i
#print "-"
noncomputable abbrev Cx.wish(X:Cx)(E:bI):Cx:={ X with xe:=E }
noncomputable abbrev Cx.nox(X:Cx):Cx:=X.wish wD
theorem Cx.Ok.wish{X:Cx}(ok:X.Ok)(E:bI):(X.wish E).Ok:=
 zT1
theorem Cx.Ok.unwish{X:Cx}{E:bI}(ok:(X.wish E).Ok):X.Ok:=
 zT1
section
variable{X:Cx}{pins:bP}{σ:St}{H:Hp}{s:Shared}{E:bI}
theorem Inv.wish(I:cQ)(E:bI):jr9:=⟨I.ok.wish E,I.os,I.bare,I.base,I.loc,I.cell,I.free,I.freeC,I.pin,I.hok,I.len⟩
theorem Inv.unwish(I:jr9):cQ:=⟨I.ok.unwish,I.os,I.bare,I.base,I.loc,I.cell,I.free,I.freeC,I.pin,I.hok,I.len⟩
theorem SP.unwish{D:Ends}{f:Flow}{c:Shared}(h:SP (X.wish E) pins D f c):SP X pins D f c:=by
 cases f with
 |next=>show hZ a b I q h;exact zB8
 |brk=>show hZ a b I q h;exact zB8
 |cont=>show hZ a b I q h;exact zB8
 |ret u=>obtain⟨v,a,b,I,r,q⟩:=h;exact⟨v,a,b,I.unwish,r,q⟩
theorem PT.nox{e:Expr}{t:TT}(h:PT X.nox e t):PT X e t:=λpins s σ H Q I hw=>
 NZ (h pins s σ H Q P2 hw) (λ_ _ ⟨b,a,q⟩=>⟨b,a.unwish,q⟩) λ_ _ z=>pJ z
theorem PSs.nox{st:jX}{t:TS}(h:PSs X.nox st t):PSs X st t:=λpins s σ H D I hw=>
 NZ (h pins s σ H D P2 hw) zz2 λ_ _ z=>pJ z
#print "-"
section
variable{X:Cx}{st:Stmt}{rest:jX}{t u:TS}{e:Expr}{te:TE}{pos:Pos}
noncomputable def Qrh:TS:=λD a H=>D.nx a H
noncomputable def QqC(t u:TS):TS:=λD a H=>t { D with nx:=u D } a H
theorem Qft:PSs X [] Qrh:=λ_ _ a H _ I h=>L4 ⟨a,H,I,h⟩
theorem WO(h1:zk6)(g:PSs X rest u):PSs X (st::rest) (QqC t u):=by
 show cZ a c D;refine LF (thn (h1 a s c H { D with nx:=u D } I h) (aP f d q));cases f with
 |next=>
  obtain⟨b,j,i,q⟩:=q;exact g a d b j D i q
 |ret v=>exact q
 |brk=>exact q
 |cont=>exact q
theorem Uj(h1:zk6):PSs X [st] t:=by
 show cZ a b D;refine LF (thn (h1 a s b H D I h) (aP f c q));cases f with
 |next=>exact L4 q
 |ret v=>exact q
 |brk=>exact q
 |cont=>exact q
theorem Inv.quiet{a:bP}{σ:St}{H:Hp}{s:Shared}(I:cF a σ):interactive X.env=false:=by simp[interactive,I.ok.kind]
noncomputable def Qqi(te:TE):TS:=λD a H=>te a H λ_ b=>D.nx a b
theorem QgA(g:rF)(f:swapsWith e nO pos.line X.env=oM:=by rfl):PS X (.Expr e pos) (Qqi te):=by
 show cZ a b D;refine wpAny_Expr_any (thn (eW g a b) (aP v j c)) I.quiet f;show cA x i I1 l d c;exact⟨b,i,I1,d⟩
noncomputable def QsZ(te:TE):TS:=λD a H=>te a H D.rt
theorem Qnd(g:rF):PS X (.Return (sO e) pos) (QsZ te):=by
 show cZ a b D;refine wpAny_Return_some (thn (eW g a b) (aP v j c));show cA x i I1 d f c;exact⟨x,b,i,I1,d,f⟩
noncomputable def Qte(c:TT)(t u:TS):TS:=λD a H=>c a H λb d=>if b=true then t D a d else u D a d
theorem Qk4{c:Expr}{a b:jX}{i:TT}(n:PT X c i)(p:PSs X a t)(o:PSs X b u):PS X (.If c a b pos) (Qte i t u):=by
 show cZ f g D;refine wpAny_If (thn (eW n f g) λd j ⟨m,I1,l⟩=>?_);cases d with
 |true=>exact p f j g m D I1 l
 |false=>exact o f j g m D I1 l
#print "-"
noncomputable abbrev TG:=V->St->Hp->(St->dQ)->Prop
noncomputable abbrev TGs:=bD->St->Hp->(St->dQ)->Prop
def PG(X:Cx)(target:Expr)(t:TG):Prop:=
 ∀(a:bP) (s:Shared) (c:St) (H:Hp) (v:V) (u:Value) (Q:St->dQ),cF a c->dJ v->t v c H Q ->
  wpAny bZ X.A (assign target X.env u) (λ_ e=>∃b d,iG a b d e/\Q b d) X.xe s
def PGs(X:Cx)(g:eE)(t:TGs):Prop:=
 ∀(a:bP) (s:Shared) (c:St) (H:Hp) (d:bD) (e:aZ) (Q:St->dQ),cF a c->Vals d e->t d c H Q ->
  wpAny bZ X.A (assignInOrder ((assignEach g X.env).map (·.2)) e) (λ_ h=>∃b f,iG a b f h/\Q b f) X.xe s
noncomputable abbrev QqM:=jm9
def QrP(X:Cx)(t:QqM):Prop:=
 ∀(a:bP) (s:Shared) (b:St) (H:Hp) (o i v:V) (c d u:Value) (Q:dQ),cF a b->h8 o c->h8 i d->dJ v->t o i v H Q ->
  wpAny bZ X.A (setItem c d u) (λ_ f=>∃e,iG a b e f/\Q e) X.xe s
noncomputable abbrev TIp:=V->V->fR
def PIp(X:Cx)(op:Operator)(t:TIp):Prop:=
 ∀(a:bP) (s:Shared) (b:St) (H:Hp) (x y:V) (v u:Value) (Q:VK),cF a b->nL->dJ y->xK t ->
  wpAny bZ X.A (inplaceOp op v u) tU X.xe s
section
variable{X:Cx}{pos:Pos}
noncomputable def QeQ(i:Nat):TG:=λv a H Q=>Q (a.set i j1) H
theorem QeH{i:Nat}{x:Str}(hN:X.N.Nodup)(hi:kJ)(b:n')(c:nW:=by show uZ):PG X mX (QeQ i):=by
 intro a s e H v u Q I r h;exact wpAny_assign_Name (WN I hN hi b r (λf d=>⟨_,H,d,h⟩) c)
noncomputable def QrB:TGs:=λb a H Q=>b=[]/\Q a H
noncomputable def QnO(t:TG)(u:TGs):TGs:=λc b H Q=>∃v r,c=v::r/\t v b H λa d=>u r a d Q
theorem Qlp:PGs X [] QrB:=by
 intro a s b H c d Q I r h;show AA e h;show lK e r;exact assignInOrder_nil ⟨b,H,I,h⟩
theorem QiR{e:Expr}{es:eE}{t:TG}{u:TGs}(h1:PG X e t)(l:PGs X es u)
  (j:(assignEach eO X.env).map (·.2)=assign e X.env::(assignEach es X.env).map (·.2):=by rfl):PGs X eO (QnO t u):=by
 intro a s c H o w Q I r h;obtain⟨v,p,m,h⟩:=h;subst m;cases r with
 |cons r g=>
  rw[j];refine assignInOrder_cons (thn (h1 a s c H _ _ _ I r h) λ_ f d=>?_);show hZ b n I1 i d;exact l a f b n _ _ Q I1 g i
noncomputable def QsO(K:Nd)(n:Nat)(t:TGs):TG:=λv c H Q=>∃a b,v=aG a/\qZ/\zX/\t b c H Q
theorem QoE{es:eE}{k:Nat}{t:TGs}{n:Nat}(y:gR)(h:PGs X es t)
  (w:jp0=n:=by rfl) (d:(assignEach es X.env).findIdx? (·.1)=nO:=by rfl):PG X (ze7 k) (QsO X.K n t):=by
 intro c s f H v u Q I r hw;obtain⟨a,i,A,p,x,hw⟩:=hw;show lK A r;obtain⟨j,g,m,C⟩:=eQ p;refine assign_Tuple_tuple (pS y) m (by simp[w,<-x,g.length]) d (bQ z l);have I1:yN c f H s z:=I.kept (t':=s.toks) λb o e=>l b o (NY nP) e;exact h c _ f H i _ Q I1 (cD g) hw
noncomputable def QrK(b c:TE)(t:QqM):TG:=λv a H Q=>b a H λo f=>c a f λi e=>t o i v e λd=>Q a d
theorem Qn0{o i:Expr}{f g:TE}{t:QqM}(B:PE X o f)(hi:PE X i g)(A:QrP X t)
  (C:∀v,assign (BJ o i) X.env v=(do
   let b <-holding [v] (iC o)
   let c <-holding [v,b] (iC i)
   standAt pos
   holding [v,b,c] (setItem b c v)
   release [v,b,c] []):=by intro _;rfl):PG X (BJ o i) (QrK f g t):=by
 intro a s d H v u Q I r h;rw[C];refine Na (ER (thn (eW B a d) (aP b l e)));show cA x F I1 n z e;refine Na (ER (thn (hi a l d F _ I1 z) (aP c j e)));show cA y E I2 m w e;refine Na (Fe (Na (ER (thn (A a j d E x y v b c u _ I2 n m r w) λ_ G ⟨D,I3,p⟩=>?_))));exact wpAny_release ⟨d,D,I3,p⟩
noncomputable def QpF(te:TE)(g:TG):TS:=λD a H=>te a H λx b=>g x a b D.nx
theorem QnA{b e:Expr}{te:TE}{g:TG}(n:rF)(m:PG X b g)(l:swapsWithSole [b] e pos.line X.env=oM:=by rfl)(hw:swappedStores [b] e X.env=pure nO:=by rfl)
  (h1:(assignEach [b] X.env).map (·.2)=[assign b X.env]:=by rfl):PS X (.Assign [b] e pos) (QpF te g):=by
 show cZ a c D;refine wpAny_Assign_stores (thn (eW n a c) (aP v f d)) l hw;show cA x o I1 i j d;rw[h1];exact thn (m a f c o x v _ I1 i j) λ_ p q=>q
theorem Qf1{i:Nat}{x:Str}{e:Expr}{te:TE}{a:Pos}(hN:X.N.Nodup)(hi:kJ)(j:n')(n:rF)(l:swapsWith e (sO (sA a)) pos.line X.env=oM:=by rfl)(m:nW:=by show uZ) :
  PS X (.Assign [.Name x a] e pos) (QpF te (QeQ i)):=by
 show cZ b c D;refine wpAny_Assign_Name (thn (eW n b c) (aP v r d)) l;show cA y o I1 f g d;exact WN I1 hN hi j f (λp I2=>⟨_,o,I2,g⟩) m
noncomputable def Qty(i:Nat)(te:TE)(b:TIp):TS:=λD a H=>∃x,a[i]?=sO (sO x)/\te a H λy d=>b x y d λz c=>D.nx (a.set i (sO z)) c
theorem Qpb{i:Nat}{x:Str}{e:Expr}{te:TE}{op:Operator}{B:TIp}{j:Pos}(hN:X.N.Nodup)(hi:kJ)(p:n')(R:rF)(L:PIp X op B)(Q:nW:=by show uZ) :
  PS X (.AugAssign (sA j) op e pos) (Qty i te B):=by
 show cZ a t D;obtain⟨v,T,h⟩:=h;obtain⟨m,M,P⟩:=I.loc;have o:Be:=by show iP p k;exact dU k;exact .inr (iS k)
 obtain⟨u,r,l⟩:=P i x v hi T o;refine wpAny_AugAssign_Name ?_
 have go:wpAny bZ X.A (iC e) (λw g=>wpAny bZ X.A (inplaceOp op u w) (λr f=>wpAny bZ X.A (zI9 r) (λ_=>SP X a D .next) X.xe f) X.xe g) X.xe s:=by
  refine thn (eW R a t) (aP w C n);show cA y Y I1 F J n;refine thn (L a C t Y v y u w _ I1 r F J) (aP z s2 n);show cA Z U I2 E G n;exact WN I2 hN hi p E (λs3 I3=>⟨_,U,I3,G⟩) Q
 rcases l with⟨b,O⟩|⟨b,c,S,d⟩
 ·exact OE I.ok.kind b M O go
 ·show kP b
  ·exact OZ I.ok.kind b S d go
  ·show iP p k
   ·have:zu3=nM:=b;show oB k
   ·have:zu3=nM:=b;show oB k
#print "-"
structure It where
 go:Nat->dQ
 yld:Nat->Hp->V->dQ
 stop:Nat->dQ
def Qeo(X:Cx)(a:bP)(H:Hp)(b:Addr):Prop:=
 gM/\tD/\b∉X.fs/\RK/\(∀x c,kC->c≠b)/\∀p∈X.pn++a,p.1≠b
theorem Inv.fpOk{X:Cx}{a:bP}{σ:St}{H f:Hp}{s:Shared}{b:Addr}(I:cF a σ)(d:s.heap.objs.size<=b)(h:f b=nO):AG a f:=by
 refine⟨h,DP (Np I.lt d),I.nofs d,.inr (Ng I.sz d),fC x c e z,aP p g z⟩
 ·obtain⟨v,q⟩:=rT I x;exact absurd (Np q.lt (tZ z d)) (Dc _)
 ·exact absurd (Np (ND (I.pin p g).1) (tZ z d)) (Dc _)
structure Turn(P:Program)(w:World)(K:Nd)(tg:Expr)(J:It)(fp:cV)(it:Addr)(tn:Nat->zV):Prop where
 mem:it∈fp
 obj:∀i h,tn i h->∀b∈fp,∃o,aI h b=sO o/\∀v,o.data≠.cell v
 keep:∀i h h',tn i h->(∀b∈fp,∀o,aI h b=sO o->aI h' b=sO o)->tn i h'
 item:∀(X:Cx),X.prog=P->X.w=w->X.K=K->gR->∀(i:Nat) (pins:bP) (s:Shared) (σ:St) (H:Hp) (E:bI),cQ->(∀b∈fp,zb0)->Cz s->J.go i H ->
  wpAny wJ X.A (pyNext iE) (λr s1=>∃u,r=sO u /\
   wpAny wJ X.A (letOwnedTupleGo tg iE u) (λ_ s2=>∃x H',B' H' s2/\dJ x/\zk7 H'/\tn (i+1) s2.heap/\∀b∈fp,H' b=nO) E s1) E s
 done:∀(X:Cx),X.prog=P->X.w=w->X.K=K->gR->∀(i:Nat) (pins:bP) (s:Shared) (σ:St) (H:Hp) (E:bI),cQ->(∀b∈fp,zb0)->Cz s->zi3 ->
  wpAny wJ X.A (pyNext iE) (λr s1=>r=nO/\B' H s1) E s
 self:∀(A:Around) (i:Nat) (s:Shared) (Q:bI) (E:bI),Cz s->Q iE s->wpAny wJ A (pyIter iE) Q E s
noncomputable abbrev TI:=St->Hp->(It->dQ)->Prop
def PIE(X:Cx)(a:bP)(σ:St)(i:Expr)(R:It->dQ)(c:Value)(f:Shared):Prop:=
 ∃(g:Addr) (h:cV) (e:Nat->zV) (J:It) (d:Hp),c=aG g/\iG a σ d f/\Turn X.prog X.w X.K i J h g e/\e 0 f.heap/\(∀b∈h,AG a d)/\R J d
def PI(X:Cx)(d iter:Expr)(c:TI):Prop:=
 ∀(a:bP) (s:Shared) (b:St) (H:Hp) (R:It->dQ),cF a b->c b H R ->
  wpAny bZ X.A zB9 (λv e=>wpAny bZ X.A (pyIter v) (PIE X a b d R) X.xe e) X.xe s
theorem QdI {M:Model} {A:Around} {E:bI} {s:Shared} {b:Expr} {it:Addr} {u:Value} {o:Obj} {n:String} {vs:dC} {Q:Unit->cS} (c:s.heap.get? it=sO o) (e:o.cls=Al) (hd:o.data=nD)
    (d:zT2=false) (a:Q () s):wpAny M A (letOwnedTupleGo b iE u) Q E s:=by
  unfold letOwnedTupleGo
  cases b<;>first
    |exact Nj a
    |(cases u<;>first
        |exact Nj a
        | (refine Na (wpAny_load c ?_)
           rw[e,hd];show wpAny M A (if(zT2&&vs[0]?==sO (rawInt _))=true then _ else _) Q E s;rw[if_neg (by intro h;rw[d,Bool.false_and]at h;cases h)]
           exact Nj a))
noncomputable def Itl(K:Nd)(a:Addr):It:=
 ⟨λi H=>∃b x,jH a b/\Cb,λi H x c=>c=H/\∀b,jH a b->Cb,λi H=>∃b,jH a b/\b.length<=i⟩
noncomputable def Itt(K:Nd)(a:Addr):It:=
 ⟨λi H=>∃b x,qZ/\Cb,λi H x c=>c=H/\∀b,qZ->Cb,λi H=>∃b,qZ/\b.length<=i⟩
noncomputable def Itr(lo:Int)(n:Nat):It:=⟨λi _=>i<n,λi H x a=>a=H/\x=.int (lo+i),λi _=>n<=i⟩
theorem QeT{P:Program}{w:World}{K:Nd}{O:Expr}(a it:Addr):Turn P w K O (Itl K a) [it] it (λi h=>h.IsListIter it a i) where
 mem:=aY
 obj:=λi h st b g=>by
  have e:b=it:=cL g
  subst e;obtain⟨o,e,c,d⟩:=st;exact⟨o,e,λv z=>by show bT d z⟩
 keep:=λi h r st k=>st.at λo e=>k it aF o e
 item:=by
  intro X B hw C M i f s L H E I n st A;subst B hw C;show hZ N x m l A;obtain⟨y,t,p,T⟩:=f0 m;show fY u Y S t l;obtain⟨J,f1,f2,G,F,D⟩:=n it aF;refine wpAny_pyNext_list_item st p.isList (x:=u) (cD Y) (aP r j R);have I1:yN f L H s r:=I.turned (t':=s.toks) (Hu g R) J f1 G F D;show L' j;exact⟨u,rfl,QdI (s:={ s with heap:=r }) e c d aA ⟨x,H,I1,S,jn0 U m l,j,pH g n⟩⟩
 done:=by
  intro X B hw C M i f s L H E I n st A;subst B hw C;show fH N m l A;obtain⟨y,t,p,T⟩:=f0 m;obtain⟨J,f1,f2,G,F,D⟩:=n it aF;show g6 Z t;exact wpAny_pyNext_list_end (pS M) st p.isList (by simp;exact Ng (dX Z) l) λr eb=>⟨rfl,I.turned (t':=s.toks) (Tl g) J f1 G F D⟩
 self:=λ_ _ _ _ _ st h=>wpAny_pyIter_listiter st h
theorem QdX{P:Program}{w:World}{K:Nd}{O:Expr}(a it:Addr):Turn P w K O (Itt K a) [it] it (λi h=>zH1 a) where
 mem:=aY
 obj:=λi h st b j=>by
  have e:b=it:=cL j
  subst e;obtain⟨o,e,c,d⟩:=st;exact⟨o,e,λv z=>by show bT d z⟩
 keep:=λi h t st k=>st.at λo e=>k it aF o e
 item:=by
  intro X B hw C M i f s L H E I r st A;subst B hw C;show hZ N x n m A;obtain⟨g,y,p,T⟩:=eQ n;show fY u Y S y m;obtain⟨J,f1,f2,G,F,D⟩:=r it aF;refine wpAny_pyNext_tuple_item st (Hn s a g p) (x:=u) (cD Y) (aP t l R);have I1:yN f L H s t:=I.turned (t':=s.toks) (Hu j R) J f1 G F D;show L' l;exact⟨u,rfl,QdI (s:={ s with heap:=t }) e c d aA ⟨x,H,I1,S,jl2 U n m,l,pH j r⟩⟩
 done:=by
  intro X B hw C M i f s L H E I r st A;subst B hw C;show fH N n m A;obtain⟨g,y,p,T⟩:=eQ n;obtain⟨J,f1,f2,G,F,D⟩:=r it aF;show g6 Z y;exact wpAny_pyNext_tuple_end (pS M) st (Hn s a g p) (by simp;exact Ng (dX Z) m) λt eb=>⟨rfl,I.turned (t':=s.toks) (Tl j) J f1 G F D⟩
 self:=λ_ _ _ _ _ st h=>wpAny_pyIter_tupleiter st h
theorem Qdx{P:Program}{w:World}{K:Nd}{F:Expr}(it:Addr)(lo:Int)(n:Nat):Turn P w K F (Itr lo n) [it] it (λi h=>IsRangeIter h it (lo+(i:Nat)*1) (eL-(i:Nat)) 1) where
 mem:=aY
 obj:=λi h st b c=>by
  have e:b=it:=cL c
  subst e
  exact⟨_,st,λv z=>by
   have D:Data.fields _=Data.cell v:=z
   cases D⟩
 keep:=λi h g st k=>k it aF _ st
 item:=by
  intro X m hw p l i a s A H E I f st j;subst m hw p;obtain⟨y,f1,f2,x,u,r⟩:=f it aF;have W:=Walks.range (prog:=X.prog) (w:=X.w) (pS l) it lo 1 n;refine W.item i s _ _ j st (fB v g B J d G);show aO t J;have I1:zL7 a A H s g B:=I.turned (λb o c e=>G b o (cD c) e) y f1 x u r;refine⟨_,rfl,QdI (s:={ s with heap:=g,toks:=B }) (n:="range_iterator") d rfl rfl aA ⟨.int (lo+i),H,I1,xU t,wC,d,pH c f⟩⟩;rw[Int.mul_one]
 done:=by
  intro X m hw p l i a s A H E I f st j;subst m hw p;obtain⟨y,f1,f2,x,u,r⟩:=f it aF;exact wpAny_pyNext_range_end (pS l) st (by have:n<=i:=j;lia) λg L=>⟨rfl,I.turned (t':=s.toks) (λb o c e=>L b o c e) y f1 x u r⟩
 self:=λ_ _ _ _ _ st h=>wpAny_pyIter_rangeiter st h
section
variable{X:Cx}{tg:Expr}
theorem Qht{a:bP}{σ:St}{H:Hp}{s:Shared}{R:It->dQ}{E:bI}{lo hi:Int}{t u v:Tok}{tk:Nat}(I:cF a σ)(h1:-(2^62)<=lo)(g:lo<2^62)(f:-(2^62)<=hi)(d:hi<2^62)
  (q:R (Itr lo zc6) H):wpAny bZ X.A (pyIter i4) (PIE X a σ tg R) E { s with heap:=s.heap.push { cls:=BG,data:=AN },toks:=tk }:=by
 refine wpAny_pyIter_range (IsRange.new ..) (small_one h1 g f d) ?_;have I1:Inv X a σ H { s with heap:=s.heap.push { cls:=BG,data:=AN },toks:=tk }:=I.kept λb o e=>k8
 refine⟨(s.heap.push { cls:=BG,data:=AN }).objs.size,[(s.heap.push { cls:=BG,data:=AN }).objs.size],_,_,H,rfl,
  I1.kept (t':=tk) λb o e=>k8,Qdx _ lo zc6,?_,bQ b c,q⟩
 ·have i:lo+l'*1=lo:=aY
  have h:((zc6:Nat):Int)-l'=Builtin.Range.rangeSize lo hi 1:=by rw[rangeSize_one];split<;>lia
  show IsRangeIter _ _ (lo+l'*1) (((zc6:Nat):Int)-l') 1;rw[i,h];exact fM
 ·have e:b=(s.heap.push { cls:=BG,data:=AN }).objs.size:=cL c
  subst e;exact I1.fpOk cO (I1.hok.fresh cO)
noncomputable def Qrm(c:TA):TI:=λa H R=>c a H λb d=>∃j:Int,b=[aL j]/\-(2^62)<=j/\j<2^62/\R (Itr 0 j.toNat) d
theorem QgM{a:Expr}{d:TA}{p pos:Pos}(u:Gl X "range")(o:X.mg "range"=nO)(v:PA X [a] d)(n:qA:=by rfl):PI X tg je9 (Qrm d):=by
 show cZ b f R;refine Call_ (Ka I u o boot_range (Em (thn (rE v b f h) (aP x y g)) n rfl));show cA w z I1 l c g;obtain⟨j,e,c,m,q⟩:=c;subst e;cases l with
 |cons r i=>
  cases i;show aO t r;exact call_range_1 (Qht I1 aA aA c m (cD q))
noncomputable def QqS(f:TI)(g:TG)(h:TS):TS:=λD a H=>f a H λJ l=>∃W:Nat->Nat->St->dQ,(∃m,W 0 m a l)/\∀i m a H,W i m a H ->
 (zi3/\D.nx a H)\/(J.go i H/\∃N:St->dQ,(∀b c,N b c->∃e,e<m/\W (i+1) e b c)/\∀x c,zk7 c->g x a c λd j=>h { D with nx:=N,ct:=N,bk:=D.nx } d j)
noncomputable def QaQ(a:cV)(h:Heap):bP:=a.filterMap λb=>(h.get? b).map λo=>(b,o)
theorem Yb{a:cV}{h:Heap}{b:Addr}{o:Obj}(c:b∈a)(e:aI h b=sO o):(b,o)∈QaQ a h:=FV.mpr ⟨b,c,u8 e⟩
theorem Qfy{a:cV}{h:Heap}{p:Addr×Obj}(c:p∈QaQ a h):p.1∈a/\h.get? p.1=Ax:=by
 obtain⟨b,d,e⟩:=FV.mp c;cases q:aI h b with
 |none=>show bT q e
 |some o=>
  rw[q]at e;have f:(b,o)=p:=Eo e;subst f;show lL d q
theorem Inv.pinned{a:bP}{σ:St}{H:Hp}{s:Shared}{c:cV}(I:cF a σ)(j:∀b∈c,AG a H)(i:∀b∈c,∃o,bK b=sO o/\∀v,o.data≠.cell v):Inv X (a++QaQ c s.heap) σ H s:=
 I.pins_of λp h=>(NQ.mp h).elim (λz=>I.pin p (NS _ z)) λz=>by
  obtain⟨f,e⟩:=Qfy z;obtain⟨l,f1,f2,_⟩:=j p.1 f;obtain⟨o,g,d⟩:=i p.1 f;show bT e g;exact⟨e,l,f1,f2,d⟩
theorem Inv.unpinned{a pl:bP}{σ:St}{H:Hp}{s:Shared}(I:Inv X (a++pl) σ H s):cF a σ:=I.pins_of λp b=>I.pin p (NS _ (Ee _ b))
theorem Qjh{iter:Expr}{body:jX}{wi:TI}{g:TG}{tb:TS}{pos:Pos}(L:PassesOwn bZ X.A X.env X.xe)(hc:gR)(hi:V')(hg:PG X tg g)(t:PSs X body tb)
  (hs:q8:=by intro _;rfl):PS X zu0 (QqS wi g tb):=by
 show cZ c σ D;refine wpAny_For (thn (hi c s σ H _ I h) λv s1 h1=>thn h1 λab s2 h2=>?_) hs;obtain⟨it,O,tn,J,H2,e,I2,T,S,f2,W,⟨m0,w0⟩,E⟩:=h2;subst e;have p:∀{z:Hp},zC0->∀b∈O,AG c z:=jp8 t
 refine codeAny_forLoop_any (λn s'=>∃i l z,iG c l z s'/\Cz s'/\zC0/\W i n l z) ?_ m0 ⟨0,σ,H2,I2,S,pH t f2,w0⟩
 rintro n s3 ⟨i,j,P,I3,F,M,w3⟩
 rcases E i n j P w3 with⟨stop,qn⟩|⟨go,N,hN,step⟩
 ·refine FQ L (thn (T.done X rfl rfl rfl hc i c s3 j P X.xe I3 (p M) F stop) λr s4 ⟨Y,I4⟩=>?_);subst Y;exact L4 ⟨j,P,I4,qn⟩
 ·refine FQ L (thn (T.item X rfl rfl rfl hc i c s3 j P X.xe I3 (p M) F go) λr s4 ⟨u,Y,h4⟩=>?_);subst Y;refine FQ L (thn h4 λ_ s5 R=>?_);obtain⟨x,H5,I5,r5,y5,C,Z⟩:=R;have aa:=I5.pinned (p Z) (T.obj _ _ C);refine FQ L (thn (hg _ s5 j H5 x u _ aa r5 (step x H5 y5)) λ_ s6 R=>?_);show hZ Q H6 I6 q6 R;refine FQ L (thn (t _ s6 Q H6 _ I6 q6) (aP f U B))
  have again:∀{a:St} {y:Hp},Inv X (c++QaQ O s5.heap) a y U->N a y->∃m,m<n/\∃i l z,iG c l z U/\Cz U/\zC0/\W i m l z:=λ{a y} I7 G=>by
   obtain⟨m',hm,w7⟩:=hN a y G;refine⟨m',hm,i+1,a,y,I7.unpinned,T.keep _ _ _ C λb t o e=>(I7.pin (b,o) (TD t)).1,bQ b t,w7⟩;obtain⟨o,e,d⟩:=T.obj _ _ C b t;exact(I7.pin (b,o) (TD t)).2.1
  cases f with
  |next=>show hZ a y I7 G B;exact again I7 G
  |cont=>show hZ a y I7 G B;exact again I7 G
  |brk=>obtain⟨a,y,I7,B⟩:=B;exact⟨a,y,I7.unpinned,B⟩
  |ret v=>obtain⟨x7,a,y,I7,r7,B⟩:=B;exact⟨x7,a,y,I7.unpinned,r7,B⟩
#print "-"
noncomputable abbrev R2:=V->V->fR
def OpR(X:Cx)(f:A')(r:R2):Prop:=
 ∀(a:bP) (s:Shared) (b:St) (H:Hp) (x y:V) (v u:Value) (Q:VK),cF a b->nL->dJ y->xK r ->
  wpAny bZ X.A (f v u) tU X.xe s
def UnR(X:Cx)(f:Value->Pq)(r:V->fR):Prop:=
 ∀(a:bP) (s:Shared) (b:St) (H:Hp) (x:V) (v:Value) (Q:VK),cF a b->nL->r x H Q ->
  wpAny bZ X.A (f v) tU X.xe s
def CallR(X:Cx)(f:Value)(r:bD->fR):Prop:=
 ∀(a:bP) (s:Shared) (b:St) (H:Hp) (c:bD) (d:aZ) (Q:VK),cF a b->Vals c d->r c H Q ->
  wpAny bZ X.A (call f d) tU X.xe s
def Qs3(X:Cx)(r:V->Hp->(Bool->dQ)->Prop):Prop:=
 ∀(a:bP) (s:Shared) (b:St) (H:Hp) (x:V) (v:Value) (Q:Bool->dQ),cF a b->nL->r x H Q ->
  wpAny bZ X.A (truthy v) zP1 X.xe s
noncomputable def tOp(r:R2)(c b:TE):TE:=λa H Q=>c a H λx e=>b a e λy d=>r x y d Q
noncomputable def tUn(r:V->fR)(b:TE):TE:=λa H Q=>b a H λx c=>r x c Q
noncomputable def rI(C:Int->Int->Prop)(g:Int->Int->V):R2:=λx y H Q=>∃i j,x=aL i/\y=aL j/\C i j/\Q pO H
noncomputable def rI0(g:Int->Int->V):R2:=λx y H Q=>∃i j,x=aL i/\y=aL j/\Q pO H
noncomputable def rU(g:Int->V):V->fR:=λx H Q=>∃i,x=aL i/\Q (g i) H
section
variable{X:Cx}{a b c:Expr}{ta tb tc:TE}{pos:Pos}
theorem Qp6(C:nJ)(B:uA){d:bP}{s:Shared}{σ:St}{H:Hp}{R:V->V->dQ}(I:cF d σ)
  (h:ta σ H λx m=>tb σ m λy e=>R x y e) {Q:bI} {f:A'}
  (z:∀v u j x y e,iG d σ e j->nL->dJ y->R x y e->wpAny bZ X.A (f v u) Q X.xe j) :
  wpAny bZ X.A (iC a) (λv i=>wpAny bZ X.A (iC b) (λu g=>wpAny bZ X.A (f v u) Q X.xe g) X.xe i) X.xe s:=by
 refine thn (eW C d σ) (aP v n l);show cA x m I1 p t l;refine thn (B d n σ m _ I1 t) (aP u j l);show cA y e I2 o r l;exact z v u j x y e I2 p o r
theorem Qqq{op:Operator}{r:R2}(j:B2)(m:nJ)(l:uA):PE X (.BinOp a op b pos) zb7:=by
 show cZ d e Q;exact Oe (Qp6 m l I h λv u f x y n I2 i g q=>j d f e n x y v u Q I2 i g q)
theorem Qqg{op:UnaryOp}{r:V->fR}(l:UnR X (unaryOp op) r)(m:nJ):PE X (.UnaryOp op a pos) (tUn r ta):=by
 show cZ d e Q;refine UnaryOp_ (thn (eW m d e) (aP v g f));show cA x n I1 i j f;exact l d g e n x v Q I1 i j
theorem opI{f:A'}{C:Int->Int->Prop}{g:Int->Int->Int}
  (rule:∀(i j:Int) (t u:Tok) (s:Shared) (Q:bI) (E:bI),C i j->Q (.int pO s.toks) { s with toks:=hJ }->wpAny bZ X.A (f rB (.int j u)) Q E s) :
  OpR X f (rI C λi j=>.int pO):=by
 intro d s o H x y v u Q I m l h;obtain⟨i,j,rfl,rfl,n,q⟩:=h;show aO t m;show aO e l;exact rule i j t e s _ _ n ⟨.int pO,H,gJ,cN,q⟩
theorem Qqa{f:A'}{g:Int->Int->Int}
  (rule:∀(i j:Int) (t u:Tok) (s:Shared) (Q:bI) (E:bI),Q (.int pO s.toks) { s with toks:=hJ }->wpAny bZ X.A (f rB (.int j u)) Q E s) :
  OpR X f (rI0 λi j=>.int pO):=by
 intro d s n H x y v u Q I m l h;show Hz;show aO t m;show aO e l;exact rule i j t e s _ _ ⟨.int pO,H,gJ,cN,q⟩
theorem QpS{f:A'}{g:Int->Int->Bool}
  (rule:∀(i j:Int) (t u:Tok) (s:Shared) (Q:bI) (E:bI),Q (.bool pO) s->wpAny bZ X.A (f rB (.int j u)) Q E s) :
  OpR X f (rI0 λi j=>.bl pO):=by
 intro d s n H x y v u Q I m l h;show Hz;show aO t m;show aO e l;exact rule i j t e s _ _ ⟨.bl pO,H,I,rfl,q⟩
def Qs9(i j:Int):Prop:=0<j/\Mv
def CMul(i j:Int):Prop:=zp9
theorem CMul.ok{i j:Int}(h:CMul i j):IntMulOk i j:=by
 rcases h with⟨e,d⟩|⟨e,d⟩
 ·exact .of_left (intBits_le_64 e d)
 ·exact .of_right (intBits_le_64 e d)
theorem op_add:OpR X yV ju0:=Qqa λ_ _ _ _ _ _ _ q=>add_int q
theorem QoS:OpR X (binaryOp .Sub) (rI0 λi j=>.int (i-j)):=Qqa λ_ _ _ _ _ _ _ q=>sub_int q
theorem Qpl:OpR X HZ (rI CMul λi j=>.int (i*j)):=opI λ_ _ _ _ _ _ _ d q=>mul_int q d.ok
theorem Qll:OpR X (binaryOp .FloorDiv) (rI Qs9 λi j=>.int (i/j)):=opI λi j _ _ _ _ _ d q=>by
 have e:gK<j:=d.1;have f:Mv:=d.2;exact floordiv_int (D0 e) (by rw[Int.fdiv_eq_ediv_of_nonneg i (Int.le_of_lt e)];exact q) (.inl (PyProof.noPylong_small bL))
theorem Qpd:OpR X (binaryOp .Mod) (rI (λ_ j=>0<j) λi j=>.int (i%j)):=opI λi j _ _ _ _ _ d q=>by
 have e:gK<j:=d;exact mod_int' (D0 d) (by rw[Int.fmod_eq_emod_of_nonneg i (Int.le_of_lt d)];exact q)
theorem Qmo:OpR X (inplaceOp .Add) ju0:=Qqa λ_ _ _ _ _ _ _ q=>iadd_int q
theorem unI{f:Value->Pq}{g:Int->Int}
  (rule:∀(i:Int) (t:Tok) (s:Shared) (Q:bI) (E:bI),Q (.int (g i) s.toks) { s with toks:=hJ }->wpAny bZ X.A (f rB) Q E s) :
  UnR X f (rU λi=>.int (g i)):=by
 intro d s j H x v Q I e h;obtain⟨i,rfl,q⟩:=h;show aO t e;exact rule i t s _ _ ⟨.int (g i),H,gJ,cN,q⟩
theorem Qo9:UnR X (unaryOp .USub) (rU λi=>.int (-i)):=unI λ_ _ _ _ _ q=>neg_int q
#print "-"
section
variable{X:Cx}{a b c:Expr}{ta tb tc:TE}{pos:Pos}
theorem Qj2{d:bP}{σ:St}{H:Hp}{s:Shared}{Q:VK}{k f:Bool}(I:cF d σ)(q:Q (.bl k) H)(e:k=f):EP X d σ Q (.bool f) s:=by
 subst e;exact⟨.bl k,H,I,rfl,q⟩
theorem op_lt:OpR X zH2 (rI0 λi j=>BK i j):=QpS λ_ _ _ _ _ _ _ q=>lt_int q
theorem op_le:OpR X zE1 (rI0 λi j=>zA3):=QpS λ_ _ _ _ _ _ _ q=>le_int q
theorem Qql:OpR X (compareOp .Gt) (rI0 λi j=>BK j i):=QpS λ_ _ _ _ _ _ _ q=>gt_int q
theorem Qf0:OpR X zH2 (λx y H Q=>∃i j,x=aJ i/\y=aJ j/\Q (.bl (decide (Tf i j))) H):=by
 intro d s g H x y v u Q I f e h;show Hz;show aO t f;show aO l e;exact lt_str (Qj2 I q rfl)
theorem op_isN:OpR X zH3 (λx y H Q=>y=.non/\Q (.bl (decide (x=.non))) H):=by
 intro e s g H x y v u Q I d f h;show uD q h;cases f;refine is_none_gen (Qj2 I q ?_)
 cases x<;>first
  |(cases d;rfl)
  |(show aO t d;rfl)
theorem OpR.or{f:A'}{r j:R2}(h:OpR X f r)(h':OpR X f j):OpR X f (λx y H Q=>xK r\/xK j):=by
 intro d s e H x y v u Q I i g q
 show kP q
 ·exact h d s e H x y v u Q I i g q
 ·exact h' d s e H x y v u Q I i g q
theorem Qkv{op:CmpOp}{r:R2}(j:vH)(n:nJ)(m:uA)(l:Si):PE X Sc zb7:=by
 show cZ d e Q;exact wpAny_Compare1 (Qp6 n m I h λv u f x y o I2 i g q=>j d f e o x y v u Q I2 i g q) l
noncomputable def QnZ(t:TE):TT:=jg6 k
theorem Qff{op:CmpOp}{r:R2}(t:vH)(B:nJ)(A:uA)(w:Si):PT X Sc (QnZ zb7):=by
 show cZ d f Q
 refine wpAny_isTrue_Compare1 (thn (eW B d f) λv i ⟨x,E,I1,m,p⟩=>thn (A d i f E _ I1 p) λu g ⟨y,D,I2,l,o⟩=>
  thn (t d g f D x y v u _ I2 m l o) λc F ⟨z,C,I3,j,k,e,n⟩=>?_) w
 show lK e j;exact Dd ⟨C,I3,n⟩
noncomputable def Qgg(r g:R2)(ta tb tc:TE):TE:=λd H Q=>ta d H λx j=>tb d j λy i=>r x y i λz e=>∃k,z=.bl k /\
 (if k=true then tc d e λf h=>g y f h Q else Q wI e)
theorem QiQ{op g:CmpOp}{r m:R2}(M:vH)(j:za5 g m)(R:nJ)(P:uA)(O:PE X c tc)
  (N:T9 g=false:=by show M0):PE X (Sn g) (Qgg r m ta tb tc):=by
 show cZ f i Q
 refine Compare_chain (thn (eW R f i) λv C ⟨x,U,I1,F,L⟩=>chain_link (thn (P f C i U _ I1 L) λu B ⟨y,T,I2,l,J⟩=>
  thn (M f B i T x y v u _ I2 F l J) λd A ⟨z,o,I3,E,k,e,n⟩=>?_)) N
 show lK e E;refine Dd ?_;cases k with
 |false=>exact ite_ff ⟨iN,o,I3,rfl,n⟩
 |true=>exact ite_tt (chain_last (thn (O f A i o _ I3 n) λt w ⟨p,S,I4,D,G⟩=>j f w i S y p u t Q I4 l D G))
theorem Qiq{op g:CmpOp}{r n:R2}(R:vH)(l:za5 g n)(Y:nJ)(U:uA)(T:PE X c tc)
  (S:T9 g=false:=by show M0):PT X (Sn g) (QnZ (Qgg r n ta tb tc)):=by
 show cZ f i Q
 refine isTrue_chain (thn (eW Y f i) λv D ⟨x,H1,I1,J,O⟩=>test_link (thn (U f D i H1 _ I1 O) λu C ⟨y,H2,I2,m,N⟩=>
  thn (R f C i H2 x y v u _ I2 J m N) λd B ⟨z,p,I3,G,k,e,o⟩=>?_)) S
 show lK e G;refine Dd ?_;cases k with
 |false=>
  show fH k' e' P o;cases e';exact ite_ff ⟨p,I3,P⟩
 |true=>
  refine ite_tt (test_last (thn (T f B i p _ I3 o) (aP w A j)));show cA t H4 I4 F M j;refine thn (l f A i H4 y t u w _ I4 m F M) (aP d' s5 j);obtain⟨z2,H5,I5,E,k2,Z,L⟩:=j;show lK Z E;exact Dd ⟨H5,I5,L⟩
def Qp0(K:Nd)(x:V)(H:Hp)(k:Bool):Prop:=
 match x with
 |.non=>k=false
 |.bl b=>k=b
 |aL i=>k=(i != 0)
 |aJ y=>jb5
 |.byt y=>jd8
 |aG p=>(∃d,jH p d/\k=!d.isEmpty)\/(∃d,SqT K H p d/\k=!d.isEmpty)\/∃kvs,H p=sO nK/\k=!kvs.isEmpty
 |_=>False
theorem QdN{κ:Type}{kvs:mY}{vs:yS}(r:wU):(!vs.isEmpty)=!kvs.isEmpty:=by
 cases r<;>rfl
theorem U4{xs:bD}{d:aZ}(r:xJ d):(!d.toArray.isEmpty)=!xs.isEmpty:=by
 cases r<;>simp
theorem Us:(sizeLine:Nat)<2^63:=by rw[DB];decide
theorem QoO:Qs3 X (λx H Q=>∃k,Qp0 X.K x H k/\Q k H):=by
 intro z s E H x v Q I j h;show fH k e q h;have F:=Us;have C:Bf:=DB;cases x with
 |non=>
  cases j;have d:k=false:=e;subst d;exact truthy_none ⟨H,I,q⟩
 |bl b=>
  cases j;have d:k=b:=e;subst d;exact Dd ⟨H,I,q⟩
 |int i=>
  show aO t j;have d:k=(i != 0):=e;subst d;exact PySem.P.truthy_int ⟨H,I,q⟩
 |str y=>
  show aO t j;obtain⟨B,d⟩:jb5:=e;subst d;exact PySem.P.truthy_str aQ ⟨H,gJ,q⟩
 |byt y=>
  show aO t j;obtain⟨B,d⟩:jd8:=e;subst d;exact PySem.W.truthy_bytes (Nv (Nk (Ng B (Nu C)) aA)) ⟨H,gJ,q⟩
 |ref p=>
  cases j;have d:(∃g,SqL X.K H p g/\k=!g.isEmpty)\/(∃g,SqT X.K H p g/\k=!g.isEmpty)\/∃kvs,H p=sO nK/\k=!kvs.isEmpty:=e
  rcases d with⟨g,l,d⟩|⟨g,l,d⟩|⟨kvs,l,d⟩
  ·subst d;obtain⟨u,r,o,A⟩:=f0 l;show g6 f r;exact wpAny_truthy_list o.isList (by simp only[Nr];lia) ⟨H,gJ,by rw[U4 r];exact q⟩
  ·subst d;obtain⟨u,r,o,A⟩:=eQ l;show g6 f r;exact truthy_tuple o (by simp only[Nr];omega) ⟨H,gJ,by rw[U4 r];exact q⟩
  ·subst d;obtain⟨A,D,n,r,m⟩:SO/\(zj8 p)=false/\∃n,KV kvs n/\s.heap.DictOf (KO X.prog X.w) p n:=sE p l;have f:kvs.length=n.length:=Du r;exact wpAny_truthy_dict D m aQ ⟨H,gJ,by rw[QdN r];exact q⟩
 |_=>show Tv e
theorem QhJ(m:nJ)(l:∀whole,zG9 a=(zo0 a)) :
  PT X a (λσ H Q=>ta σ H λx e=>∃k,Qp0 X.K x e k/\Q k e):=by
 show cZ d σ Q;refine isTrue_plain (thn (eW m d σ) (aP v g f)) (l _);show cA x n I1 i j f;exact QoO d g σ n x v Q I1 i j
theorem op_add_str:OpR X yV (λx y H Q=>∃i j,x=aJ i/\y=aJ j/\i.length+j.length<=sizeLine/\Q (.str (i++j)) H):=by
 intro d s m H x y v u Q I g f h;obtain⟨i,j,rfl,rfl,l,q⟩:=h;show aO t g;show aO e f;exact add_str (λe n=>⟨.str (i++j),H,gJ,cN,q⟩) l
theorem Yl{x:V}{us:aZ}(r:Vals [x] us):∃u,us=[u]/\dJ x:=by
 cases r with
 |cons e d=>cases d;show Cy e
theorem Qaw{x y:V}{us:aZ}(r:Vals [x,y] us):∃u w',us=[u,w']/\dJ x/\h8 y w':=by
 cases r with
 |cons g f=>
  cases f with
  |cons e d=>cases d;exact⟨_,_,rfl,g,e⟩
theorem QeE(f:gR):CallR X (.builtin "max") (λxs H Q=>∃i j,xs=[aL i,aL j]/\Q (.int zv9) H):=by
 intro e s g H xs m Q I r h;obtain⟨i,j,rfl,q⟩:=h;show jg7;refine max_two_ints (pS f) jj3
 by_cases d:j>i
 ·rw[bW d,bW d];exact cN
 ·rw[cR d,cR d];exact cN
theorem Qfc(f:gR):CallR X (.builtin "min") (λxs H Q=>∃i j,xs=[aL i,aL j]/\Q (.int zw0) H):=by
 intro e s g H xs m Q I r h;obtain⟨i,j,rfl,q⟩:=h;show jg7;refine min_two_ints (pS f) jj3
 by_cases d:j<i
 ·rw[bW d,bW d];exact cN
 ·rw[cR d,cR d];exact cN
theorem QfD:CallR X zM2 (λxs H Q=>(∃i,xs=[aL i]/\Q d3 H)\/∃k,xs=[.bl k]/\Q (.int (tF k)) H):=by
 intro d s f H xs g Q I r h
 rcases h with⟨i,rfl,q⟩|⟨k,rfl,q⟩
 ·obtain⟨u,rfl,t,rfl⟩:=Yl r;exact call_int_int ⟨aL i,H,I,cN,q⟩
 ·show oW e r;exact call_int_bool ⟨.int (tF k),H,gJ,cN,q⟩
#print "-"
structure ObjM(h:Heap)(x dx C:Addr)(mA:c'):Prop where
 obj:aI h x=sO (LZ C dx)
 ns:h.Ns1 dx mA
 ne:dx≠x
theorem Qaq{h:Heap}{g:Addr}{d:c'}(n:h.Ns1 g d):∃c,aI h g=sO c/\∀name,Oq name c=sO (d name):=by
 obtain⟨o,f,r,j,hd,m,_,l⟩:=n;refine⟨o,j,λname=>?_⟩;have e:=l name;unfold nsFind findBy at e;rw[<-Yac]at e;unfold Oq;rw[hd];dsimp only;split
 ·rename_i y q;rw[q]at e;exact congrArg sO e
 ·rename_i q;rw[q]at e
  have a:f.toList.any (·.refKey)=false:=by
   rw[Yao];intro y i;obtain⟨z,t,b⟩:=m y (Dm.mp i);simp[DictEntry.refKey,b]
  have p:¬f.toList.any (·.refKey)=true:=by rw[a];exact EC
  rw[cR p];exact congrArg sO e
theorem ObjM.look{h:Heap}{x c C:Addr}{b:c'}(I:ObjM h x c C b):∃a,PySem.W.InstAt h x (LZ C c) C pU/\∀name,Oq name a=sO (b name):=
 let⟨a,d,e⟩:=Qaq I.ns
 ⟨a,⟨I.obj,rfl,rfl,d⟩,e⟩
theorem RelO.some_of{v:V}{o:jS}(r:RelO j1 o):∃u,o=sO u/\dJ v:=by
 cases o with
 |none=>show Tv r
 |some u=>exact⟨u,rfl,r⟩
theorem Qgv{v:V}{u:Value}(r:dJ v):PySem.W.handedIn u=true:=by
 cases v with
 |non=>cases(zH4 u r);rfl
 |bl b=>cases(show u=Value.bool b from r);rfl
 |int i=>obtain⟨t,e⟩:=(S6 r);cases e;rfl
 |str x=>obtain⟨t,e⟩:=(vG u x r);cases e;rfl
 |byt b=>obtain⟨t,e⟩:=(show∃t,u=Value.bytes b t from r);cases e;rfl
 |flt b=>show jq0 e b r;rfl
 |ref a=>cases(show u=eK a from r);rfl
 |ty n=>cases(show u=Value.type n from r);rfl
section
variable{P:Program}{w:World}{H H':Hp}{h h':Heap}{a C dx:Addr}{fs fs':pC}
theorem Qk3(c:lB)(e:H a=sO zL8):∃b,ObjM h a dx C b/\(∀f,zy9 b)/\PySem.Within b (fs.map (·.1))/\V3/\H dx=rL a:=by
 obtain⟨d,z,ne,ob,b,n,r,q⟩:=(show ObjOk P w H h a zL8 from c a _ e)
 exact⟨b,⟨ob,n,ne⟩,r,q,z,d⟩
#print "-"
structure Cls(K:Nd)(C:Addr):Prop where
 pg:YaB K C Str.empty=true
 hd:PySem.W.hasDictIn K C=true
 po:PySem.W.plainOver K C=true
 sa:IZ K (aC C) "__setattr__"=zq0
theorem Cls.get{K:Nd}{C:Addr}(c:Cls K C)(f:Str):YaB K C f=true:=c.pg
def QrM(K:Nd)(C:Addr)(f:Str):Prop:=IZ K (aC C) f=sO nO
section
variable{X:Cx}{pins:bP}{σ:St}{H:Hp}{s:Shared}{a C dx:Addr}{fs:pC}{f:Str}{v:V}{A:Around}{E:bI}
theorem QlL{prog:Program}{w:World}{env:Env}{e:Expr}{f:Str}{pos:Pos}{s:Shared}{Q:bI}(c:attributeBase e f env (eval e env)=eval e env)
  (h:wpAny aX A (eval e env) (λo b=>wpAny aX A (getAttr o f true) Q E b) E s):wpAny aX A (eval (.Attribute e f pos) env) Q E s:=
 Attribute_any_ h (by rw[arm_eval_Attribute,c])
#print "-"
section
variable{X:Cx}{pins:bP}{σ:St}{H:Hp}{s:Shared}{A:Around}{E:bI}{Q:bI}{c:Value}{b:Bool}
inductive TyOf(K:Nd)(H:Hp):V->MP where
 |non:TyOf K H .non (.type "NoneType")
 |bl (x:Bool):TyOf K H (.bl x) (.type "bool")
 |int (i:Int):TyOf K H d3 zM2
 |str (x:Str):TyOf K H cM (.type "str")
 |flt (x:UInt64):TyOf K H (.flt x) (.type "float")
 |lst {a:Addr} {xs:bD} (e:H a=sO iD):TyOf K H (aC a) M2
 |frz {a:Addr} {o:Obj} {xs:bD} (e:H a=sO (.frz o iD)):TyOf K H (aC a) M2
 |tup {a:Addr} {xs:bD} (e:H a=sO nF):TyOf K H (aC a) tH
 |dK {a:Addr} {kvs:gU V} (e:H a=sO nK):TyOf K H (aC a) zJ1
 |dT {a:Addr} {kvs:HM} (e:H a=sO (.dT kvs)):TyOf K H (aC a) zJ1
 | ins {a C dx:Addr} {fs:pC} (e:H a=sO zL8) (cl:Cls K C) (ha:IZ K (aC C) "__class__"=sO (sO qB))
   (hn:PySem.W.specialIn K qB "__get__"=sO (sO RJ)) (htk:PySem.W.takesIn K qB=hQ)
   (hm:OQ K C TF=hQ):TyOf K H (aC a) (aC C)
theorem QgO{x:V}{u t:Value}(I:cQ)(d:dJ x)(ty:TyOf X.K H x t)(e:YaQ X.K t c=sO b)(h:∀tk,Q (.bool b) { s with toks:=tk }) :
  wpAny bZ A (call Hr [u,c]) Q E s:=by
 cases ty with
 |non=>cases(zH4 u d);exact EK PySem.W.kitx_none I.kIn True.intro e i7 h
 |bl y=>cases(show u=Value.bool y from d);exact EK PySem.W.kitx_bool I.kIn True.intro e i7 h
 |int i=>obtain⟨t,q⟩:=(S6 d);cases q;exact EK PySem.W.kitx_int I.kIn True.intro e i7 h
 |str y=>obtain⟨t,q⟩:=(vG u y d);cases q;exact EK PySem.W.kitx_str I.kIn True.intro e i7 h
 |flt y=>show jq0 q y d;exact EK PySem.W.kitx_float I.kIn True.intro e i7 h
 |@lst a j f=>
  cases(show u=eK a from d);obtain⟨_,_,n,_,g⟩:=(show ObjOk X.prog X.w H s.heap a (.lst j)from sE a f)
  exact EK Lp I.kIn (gH g) e i7 h
 |@frz a ob j f=>
  cases(show u=eK a from d);obtain⟨_,_,_,n,_,g⟩:=(show ObjOk X.prog X.w H s.heap a (.frz ob (.lst j))from sE a f)
  exact EK Lp I.kIn (gH g) e i7 h
 |@tup a j f=>
  cases(show u=eK a from d);obtain⟨_,_,_,p⟩:=(show ObjOk X.prog X.w H s.heap a (.tup j)from sE a f)
  obtain⟨o,g,l,_⟩:=p;exact EK Yad I.kIn ⟨o,g,l⟩ e i7 h
 |@dK a kvs f=>
  cases(show u=eK a from d);obtain⟨_,_,L,_,p⟩:=(show ObjOk X.prog X.w H s.heap a nK from sE a f)
  obtain⟨o,F,G,g,l,_⟩:=p;exact EK Yap I.kIn ⟨o,g,l.1⟩ e i7 h
 |@dT a kvs f=>
  cases(show u=eK a from d);obtain⟨_,_,j,_,o,F,G,g,l,_⟩:=(show ObjOk X.prog X.w H s.heap a (.dT kvs)from sE a f)
  exact EK Yap I.kIn ⟨o,g,l.1⟩ e i7 h
 |@ins a C P fs f r D v m B=>
  cases(show u=eK a from d);obtain⟨N,O,_⟩:=Qk3 I.hok f;obtain⟨M,J,_⟩:=O.look;exact EK (PySem.W.kitx_own (r.get _) r.hd D v m B) I.kIn J e i7 h
#print "-"
structure Room(k:Nat)(A:Around):Prop where
 hd:jU
 dp:jp1
 un:A.units+16*k+200<cLine
theorem Room.mono{j k:Nat}{A:Around}(r:P')(h:j<=k):Room j A:=⟨r.hd,by have:=r.dp;lia,by have:=r.un;lia⟩
theorem Room.deeper{k:Nat}{A:Around}(r:Room (k+1) A)(env:Env):Room k (A.deeper env):=
 ⟨r.hd,jc7,jb6⟩
theorem Qdn{A:Around}{C:Addr}{us:aZ}{a:vP}:(A.under (.builtin "type.__call__" ⟨aG C::us,a⟩)).depth=A.depth+1:=by
 first|rfl|simp[Around.under,Code.weight,Code.isCreation,Code.isGuard,Code.isCaller,Code.frames,Code.isFrame,guardIds]
theorem QdM{A:Around}{C:Addr}{us:aZ}{a:vP}:(A.under (.builtin "type.__call__" ⟨aG C::us,a⟩)).units=A6:=by
 first|rfl|simp[Around.under,Code.cUnits,Code.frames,Code.isFrame]
theorem Room.make{k:Nat}{A:Around}(r:Room (k+1) A)(C:Addr)(us:aZ)(a:vP):Room k (A.under (.builtin "type.__call__" ⟨aG C::us,a⟩)):=
 ⟨r.hd,by have:=r.dp;rw[Qdn];lia,by have:=r.un;rw[QdM];lia⟩
theorem Room.depth{k:Nat}{A:Around}(r:P'):A.depth<recursionLimit:=by have:=r.dp;exact Nk (Ng dZ dZ) this
theorem Room.units{k:Nat}{A:Around}(r:P'):A.units+64<cLine:=by have:=r.un;lia
noncomputable def QtV:TA:=λ_ H Q=>Q [] H
noncomputable def QgF(d:TE)(c:TA):TA:=λa H Q=>d a H λx f=>c a f λb e=>Q (x::b) e
section
variable{X:Cx}{e:Expr}{es:eE}{te:TE}{t:TA}{pos:Pos}
theorem U1:PA X [] QtV:=λ_ _ _ _ H Q I h=>DG ⟨[],H,I,.nil,h⟩
theorem Ve(o:rF)(n:Pu)(m:q5:=by rfl):PA X eO zh6:=by
 intro pos a s c H Q I h;rw[m];show Rq;refine EH (thn (eW o a c) (aP u f b));show cA x r I1 i l b;refine thn (n pos a f c r _ I1 l) (aP v w b);show cA d p I2 g j b;exact⟨x::d,p,I2,.cons i g,j⟩
noncomputable def Qtd(t:TA):TE:=λc H Q=>t c H λa b=>Tg/\∀p,b p=nO->Q (aC p) (upd b p (.tup a))
noncomputable def QsU(t:TA):TE:=λc H Q=>t c H λa b=>Tg/\∀p,b p=nO->Q (aC p) (upd b p oN)
theorem Qjl{j}(h:Pu):PE X (ze7 j) (Qtd t):=by
 intro a s f H Q I m;refine wpAny_Tuple_spliced (thn (rE h a f m) (aP l c g));obtain⟨i,d,I1,r,z,q⟩:=g;refine⟨oX r z,?_⟩;have n:d c.heap.objs.size=nO:=I1.hok.fresh cO;refine⟨kE c,upd d c.heap.objs.size (.tup i),I1.laid (t':=c.toks) (λb u e=>k8) cO ?_,rfl,q _ n⟩;exact⟨z,l,r,⟨_,fM,rfl,_,rfl⟩⟩
theorem Qj3(h:Pu):PE X zJ2 (QsU t):=by
 intro a s f H Q I l;refine wpAny_List_spliced (thn (rE h a f l) (aP j c g));obtain⟨i,d,I1,r,z,q⟩:=g;refine⟨oX r z,?_⟩;have m:d c.heap.objs.size=nO:=I1.hok.fresh cO;refine⟨kE c,upd d c.heap.objs.size (.lst i),I1.laid (t':=c.toks) (λb u e=>k8) cO ?_,rfl,q _ m⟩;exact⟨z,j,0,r,fM⟩
#print "-"
noncomputable abbrev Sp:=bD->Hp->VK->XK->Prop
noncomputable abbrev CXT:=fT->Hp->Shared->XK->bI
structure Env0(P:Program)(w:World)(K:Nd)(mg:c')(base:Heap)(A:Around)(outer:fT)(s:Shared)(H:Hp):Prop where
 frames:A.frames=sO outer
 mod:Mod K mg base
 bs:∀b o,base.get? b=sO o->bK b=sO o/\gM
 bsz:base.objs.size<=s.heap.objs.size
 funs:s.heap.FunFrames base outer
 frf:∀b∈frs outer,gM
 hok:Pb H s
 bare:zL s
def CE(a:fT)(P:Program)(w:World)(H:Hp)(s:Shared)(Q:VK)(u:Value)(b:Shared):Prop:=
 ∃v c,b.os=s.os/\zL b/\Un (frs a) [] H c s.heap b.heap/\Pb c b/\dJ v/\Q v c
def CR(CX:CXT)(a:fT)(P:Program)(w:World)(H:Hp)(s:Shared)(Q:VK)(E:XK)(r:Result)(b:Shared):Prop:=
 match r with
 |.ok (.ret u)=>CE a P w H s Q u b
 |.ok _=>False
 |.error e=>CX a H s E e b
structure FnOk(P:Program)(w:World)(K:Nd)(mg:c')(base:Heap)(CX:CXT)(k:Nat)(f:Addr)(fd:FuncData)(ps:aD)(sp:Sp):Prop where
 len:zo9
 run:∀(A:Around) (outer:fT) (s:Shared) (H:Hp) (args:Args) (us:aZ) (vs:bD) (Q:VK) (E:XK),P'->Env0 P w K mg base A outer s H->BindsTo s fd args BW->Vals vs us->MQ ->
  codeAny wJ A (.call (aC f) args) (CR CX outer P w H s Q E) s
theorem FnOk.imp{P:Program}{w:World}{K:Nd}{c:c'}{base:Heap}{CX:CXT}{k:Nat}{f:Addr}{fd:FuncData}{ps:aD}{sp b:Sp}(F:FnOk P w K c base CX k f fd ps sp)
  (h:∀vs H Q E,b vs H Q E->MQ):FnOk P w K c base CX k f fd ps b:=
 ⟨λvs H Q E q=>F.len vs H Q E (h _ _ _ _ q),λA a s H args d vs Q E i j l e g=>F.run A a s H args d vs Q E i j l e (h _ _ _ _ g)⟩
theorem Env0.make{P:Program}{w:World}{K:Nd}{b:c'}{base:Heap}{A:Around}{a:fT}{s:Shared}{H:Hp}(e:Env0 P w K b base A a s H)(C:Addr)(us:aZ)(c:vP) :
  Env0 P w K b base (A.under (.builtin "type.__call__" ⟨aG C::us,c⟩)) a s H:=⟨by first|exact e.frames|(simpa[Around.under,Code.envs,Code.isFrame,pushEnvs]using e.frames),e.mod,e.bs,e.bsz,e.funs,e.frf,e.hok,e.bare⟩
section
variable{X:Cx}{pins:bP}{σ:St}{H:Hp}{s s':Shared}
theorem Inv.env0(I:cQ):Env0 X.prog X.w X.K X.mg X.base X.A X.stack s H:=
 ⟨I.ok.frames,I.ok.mod,I.bs,Ng I.ok.bsz I.sz,I.stack,I.stkFree,I.hok,I.bare⟩
theorem Inv.after{Q:VK}{u:Value}(I:cQ)(h:CE X.stack X.prog X.w H s Q u s'):EP X pins σ Q u s':=by
 obtain⟨v,f,os,bare,un,c,r,q⟩:=h;show cA e g d t a s';obtain rfl:a=s.os:=os;exact⟨v,f,I.call (h':=e) (g':=g) (d':=d) (t':=t) (ch:=[]) un c bare (λb z=>absurd z aF),r,q⟩
#print "-"
noncomputable def Qm4(sp:Sp)(a:bD)(E:XK)(t:TA):TE:=λb H Q=>t b H λc d=>sp (c++a) d Q E
def Binds(K:Nd)(fd:FuncData)(ps:aD)(b:aZ):Prop:=
 ∀(s:Shared) (a:aZ),r4->(a++b).length=ps.length->BindsTo s fd ⟨a,[]⟩ (ps.zip (a++b))
theorem Binds.all{K:Nd}{fd:FuncData}{ps:aD}(h:∀us:aZ,zA4->bindArgs fd MR=pure BW):Bi:=λs us _ a=>by
 rw[E2]at a ⊢;exact .of_eq (h us a)
def Qco(CX:CXT)(X:Cx)(E:XK):Prop:=∀(a:bP) (c:St) (H:Hp) (s:Shared) (e:Value) (b:Shared),cF a c->CX X.stack H s E e b->X.xe e b
section
variable{X:Cx}{CX:CXT}{k:Nat}{f C:Addr}{fd:FuncData}{ps:aD}{sp:Sp}{dvs:bD}{ds:aZ}{E:XK}{x m:Str}{p pos apos:Pos}{e o:Expr}{es:eE}{ta:TE}{t:TA}
theorem QnL{a:bP}{σ:St}{H:Hp}{s:Shared}{Q:VK}{us:aZ}{vs:bD}(F:ja1)(i:Cc)(l:Binds X.K fd ps ds)(hd:Vals dvs ds)(g:Qco CX X E)
  (I:cF a σ) (r:Vals vs us) (h:sp (vs++dvs) H Q E):wpAny bZ X.A (call (aC f) us) (EP X a σ Q) X.xe s:=by
 have c:Vals (vs++dvs) (us++ds):=r.append hd;have j:(us++ds).length=ps.length:=by show sK c;exact F.len _ _ _ _ h
 refine Ic (D1 (F.run X.A X.stack s H MR (us++ds) (vs++dvs) Q E i I.env0 (l s us I.kIn j) c h) (aP r d b));cases r with
 |error e=>exact g a σ H s e d I b
 |ok n=>
  cases n with
  |ret u=>exact I.after b
  |next=>exact pJ b
  |brk=>exact pJ b
  |cont=>exact pJ b
theorem Qke(F:ja1)(l:Cc)(v:jI)(n:mH=sO (aC f))(u:DY X.K (aC f)=true)(z:Binds X.K fd ps ds)(hd:Vals dvs ds)(j:Qco CX X E)
  (B:PA X eO t) (c:gB:=by decide) (y:q5:=by rfl) (b:(backTo pos qE).any (·.1)=false:=by rfl) :
  PE X xY (Qm4 sp dvs E t):=by
 show cZ a g Q;refine EI (Yx I v n ?_ c);refine PySem.W.callWith_K (h₀:=X.base) I.ok.mod.kin u (thn (rE B a g h) (aP G J i)) y b;show cA D L I1 r q i;refine⟨I1.kIn,?_⟩;exact QnL F l z hd j I1 r q
#print "-"
structure FnScope(N P:aD)(sc:Scope):Prop where
 kind:sc.kind=.function
 co:sc.isCoroutine=false
 gen:sc.isGenerator=false
 nd:N.Nodup
 pre:N.take P.length=P
 par:∀x∈P,sc.names.lookup x=nI\/sc.names.lookup x=lF
 nofree:∀y∈sc.names,y.2≠.free
theorem Qas{kindOf:SQ}{x:Str}:∀{binds:vP} {m:c'},(∀v,(x,v)∉binds)->bindL kindOf binds m x=m x
 |[],_,_=>rfl
 | (n,v)::r,m,h=>by
  unfold bindL;rw[Qas λw hw=>h w (Nt _ hw)];split
  ·have:x≠n:=js0
   simp[this]
  ·rfl
theorem Qba{kindOf:SQ}{x:Str}:∀{binds:vP} {m:c'},(∀v,(x,v)∉binds)->bindC kindOf binds m x=m x
 |[],_,_=>rfl
 | (n,v)::r,m,h=>by
  unfold bindC;rw[Qba λw hw=>h w (Nt _ hw)];split
  ·rfl
  ·have:x≠n:=js0
   simp[this]
theorem QaX{kindOf:SQ}{x:Str}{v:Value}:∀{P:aD} {vs:aZ} {i:Nat} {m:c'},P.Nodup->P[i]?=sO x->C0->kindOf x=nI ->
  bindL kindOf (P.zip vs) m x=sO v
 |[],_,_,_,_,h,_,_=>gG h
 |_::_,[],_,_,_,_,h,_=>gG h
 |p::P,w::vs,0,m,b,h1,a,c=>by
  simp at h1 a;subst h1;subst a;show bindL kindOf Tm m p=_;unfold bindL;rw[Qas jq1,bW c];simp
 |p::P,w::vs,i+1,m,b,h1,a,c=>by
  show bindL kindOf Tm m x=_;unfold bindL;exact QaX (i:=i) (ES.mp b).2 (cD h1) (cD a) c
theorem Qbj{kindOf:SQ}{x:Str}{v:Value}:∀{P:aD} {vs:aZ} {i:Nat} {m:c'},P.Nodup->P[i]?=sO x->C0->kindOf x≠nI ->
  bindC kindOf (P.zip vs) m x=sO v
 |[],_,_,_,_,h,_,_=>gG h
 |_::_,[],_,_,_,_,h,_=>gG h
 |p::P,w::vs,0,m,b,h1,a,c=>by
  simp at h1 a;subst h1;subst a;show bindC kindOf Tm m p=_;unfold bindC;rw[Qba jq1,cR c];simp
 |p::P,w::vs,i+1,m,b,h1,a,c=>by
  show bindC kindOf Tm m x=_;unfold bindC;exact Qbj (i:=i) (ES.mp b).2 (cD h1) (cD a) c
noncomputable def start(N:aD)(vs:bD):St:=vs.map sO++List.replicate (N.length-vs.length) nO
noncomputable def Qg8(CX:CXT)(P:Program)(w:World)(K:Nd)(mg:c')(base:Heap)(N:aD)(b:Str)(a:Scope)(f:Addr)(cd:Value)(A:Around)(outer:fT)(s:Shared)(H:Hp)(E:XK):Cx where
 prog:=P
 w:=w
 K:=K
 mg:=mg
 base:=base
 A:=A.deeper zr0
 N:=N
 s₀:=s
 H₀:=H
 env:=jj4
 outer:=outer
 stack:=jj4::outer
 ex:=[]
 calm:=true
 fn:=zk8
 pn:=[]
 xe:=λe d=>wpAny wJ (A.deeper zr0) (leaving zr0 e) (λ_ c=>CX outer H s E e c) (λg c=>CX outer H s E g c) d
theorem Qcr{a:Scope}{n:Nat}{x:Str}(h:tY a x=lF):∃c,(cellsFrom n a.names []).lookup x=sO c:=by
 have q:=Of a.names n [] (iS h);exact LG.mp q
theorem Qgi{CX:CXT}{P:Program}{w:World}{K:Nd}{G:c'}{base:Heap}{N ps:aD}{j:Str}{d:Scope}{f:Addr}{cd:Value}{A:Around}{g:fT}{s I:Shared}{H:Hp}{E:XK}{us:aZ}{vs:bD}
  (S:FnScope N ps d) (hd:jU) (m:Env0 P w K G base A g s H) (Q:vs.length=ps.length) (r:Vals vs us)
  (x:InCallC s s.heap.objs.size (bindL jc4 BW λ_=>nO) (cellsFrom HA d.names []) (bindC jc4 BW λ_=>nO) I) :
  Inv (Qg8 CX P w K G base N j d f cd A g s H E) [] BL H I:=by
 have O:ps.length<=N.length:=by have:=congrArg List.length S.pre;rw[EL]at this;exact Ng yY PJ
 obtain⟨F,T,rfl,L⟩:=x.done;have o:∀b:Addr,b∉(Qg8 CX P w K G base N j d f cd A g s H E).ex:=λb z=>absurd (show b∈([]:cV)from z) aF
 refine⟨⟨m.mod,S.kind,rfl,rfl,Ny _,λy z c F l=>?_,bQ y t,λy c _ h=>?_,λ_=>hd,Around.frames_deeper m.frames,.inr wC,λb z=>absurd z (o b),m.bs,m.bsz,λb _ _=>o b,λb z=>absurd z (o b),m.funs,m.frf⟩,
  rfl,m.bare,Un.kept L,⟨_,x.toInCall.ns,fB i y v F l U⟩,λy c h=>⟨_,x.cell y c h⟩,m.hok.fresh cO,aP y c h,λp C=>absurd (show p∈([]:bP)from C) aF,m.hok.kept L,?_⟩
 ·exact name_of_addr x.apart (D9 F) (D9 l)
 ·have t:tY d y=lF\/tY d y=nM:=t
  show kP t
  ·exact Qcr t
  ·exact absurd rfl (S.nofree _ (D9 t))
 ·exact Nv (x.above y c (D9 h))
 ·have D:i<vs.length:=by
   unfold start at l
   by_cases D:i<vs.length
   ·exact D
   ·rw[Dv (cD D)]at l;rw[LP]at l;split at l<;>cases l
  have R:C0:=by
   unfold start at l;rw[Ew (cD D),Nx]at l;cases e:vs[i]? with
   |none=>show bT e l
   |some a=>show bT e l;rfl
  show fY u J M r R
  have C:ps[i]?=sO y:=by
   rw[<-S.pre,List.getElem?_take_of_lt (Np D (Nu Q))];exact F
  have B:ps.Nodup:=by rw[<-S.pre];exact S.nd.sublist (List.take_sublist _ _)
  show rW u M
  rcases S.par y (N0 C)with k|k
  ·exact .inl ⟨k,QaX B C J k⟩
  ·obtain⟨c,e⟩:=Qcr (n:=Br s) k;refine .inr ⟨dU k,c,e,?_⟩;have q:=rT x y;rw[Qbj B C J (by show tY d y≠_;rw[k];decide)]at q;exact q
 ·exact m.hok.fresh (Nv (x.above y c (D9 h)))
 ·unfold start;show _=N.length;rw[Nw,Nz,List.length_replicate];lia
theorem QkL{CX:CXT}{P:Program}{w:World}{K:Nd}{D:c'}{base:Heap}{k:Nat}{f:Addr}{name d:Str}{h:Arguments}{body:jX}{a:Scope}{U kV C pm g ct oc:Value}{X od:dW}
  {L:oZ} {N ps:aD} {sp:Sp} (lk:iF f=sO ⟨oc,od,.func jd9,L⟩) (R:La K g d=true) (S:FnScope N ps a)
  (len:zo9)
  (m:∀(A:Around) (c:fT) (s:Shared) (H:Hp) (vs:bD) (Q:VK) (E:XK),Room k (A.deeper (envOfC d a s.heap.objs.size f g))->MQ ->
   ∃t,PSs (Qg8 CX P w K D base N d a f g A c s H E) body t/\t { nx:=λ_ j=>Q .non j,rt:=Q } BL H) :
  FnOk P w K D base CX (k+1) f jd9 ps sp:=by
 refine⟨len,λA c s H args Z vs Q E O B hb r z=>?_⟩;have hl:=len _ _ _ _ z;have Y:r4:=B.mod.kin.keeps (zE0 B);have M:s.heap.NoLimit:=B.mod.nolimit.keeps (zE0 B)
 have l:∀y∈ps.zip Z,zC4=nI\/(zC4=lF/\((cellsFrom HA a.names []).lookup y.1).isSome=true):=λ⟨n,v⟩ hy=>by
  rcases S.par n (L5 hy).1 with q|q
  ·exact dU q
  ·exact .inr ⟨q,Of _ _ _ (iS q)⟩
 refine codeAny_call_function O.depth (Y _ _ lk) rfl S.co S.gen rfl (PySem.W.codeRec_of Y R) (hb _ _ _ _ ?_);refine wpAny_newFunctionEnv_cells S.kind l λaa he T x=>?_;subst he;refine⟨M.keeps x.toInCall.keep,codeAny_func ?_⟩;obtain⟨t,ht,hq⟩:=m A c s H vs Q E (O.deeper _) z;have I:Inv (Qg8 CX P w K D base N d a f g A c s H E) [] BL H T:=Qgi S O.hd B hl r x;refine NZ (ht [] T BL H _ I hq) (λfl F p=>?_) λe F p=>p
 have fin:∀{i:St} {j:Hp} {v:V} {u:Value},Inv (Qg8 CX P w K D base N d a f g A c s H E) [] i j F->dJ v->Q v j->CE c P w H s Q u F:=
  λ{i j v u} J G q=>⟨v,j,J.os,J.bare,J.base,J.hok,G,q⟩
 cases fl with
 |ret u=>
  obtain⟨v,i,j,J,G,q⟩:=p;exact fin J G q
 |next=>
  show hZ i j J q p;exact fin (v:=V.non) (u:=Value.none) J rfl q
 |brk=>
  show zW q p;exact pJ q
 |cont=>
  show zW q p;exact pJ q
section
variable{X:Cx}{x:Str}{p pos:Pos}{e:Expr}{es:eE}{t:TA}{id T:String}{r:bD->fR}
noncomputable def tCB(r:bD->fR)(t:TA):TE:=λa H Q=>t a H λb c=>r b c Q
theorem WL(y:CallR X l9 r)(v:jI)(u:mH=nO)(n:qS=sO l9)(z:PA X eO t)(o:qR:=by decide)(c:gB:=by decide)
  (w:q5:=by rfl) (b:(backTo pos qE).any (·.1)=false:=by rfl):PE X xY (tCB r t):=by
 show cZ a d Q;refine EI (Ka I v u n ?_ o c);refine Dg (thn (rE z a d h) (aP i j f)) w b;show cA g A I1 l m f;exact y a j d A g i Q I1 l m
theorem QfU(y:CallR X wS r)(v:jI)(u:mH=nO)(n:qS=sO wS)(z:PA X eO t)(o:qR:=by decide)(c:gB:=by decide)
  (w:q5:=by rfl) (b:(backTo pos qE).any (·.1)=false:=by rfl):PE X xY (tCB r t):=by
 show cZ a d Q;refine EI (Ka I v u n ?_ o c);refine Em (thn (rE z a d h) (aP i j f)) w b;show cA g A I1 l m f;exact y a j d A g i Q I1 l m
#print "-"
#print "-L2"
namespace HT
open PySem PyProof.Rows
section
variable{prog:Program}{w:World}{A:Around}{E:bI}{s:Shared}
theorem cat_tup{t b:Addr}{vs ws:aZ}{Q:bI}(r:IsTup s.heap t vs.toArray)(u:IsTup s.heap b ws.toArray)(l:vs≠[])
  (h1:ws=[]->Q (aC t) s) (v:ws≠[]->Q i4 { s with heap:=s.heap.push { cls:=jO,data:=.seq (vs++ws).toArray } })
  (hsz:vs.length+ws.length<=sizeLine):wpAny aX A (binaryOp .Add (aC t) (aC b)) Q E s:=by
 obtain⟨⟨cls,o,data,i⟩,h,m,n,hd⟩:=id r;obtain⟨⟨p,g,data2,c⟩,a,f,j,d⟩:=id u;simp only at m hd f d;subst m hd f d;have e:vs.toArray++ws.toArray=(vs++ws).toArray:=aY
 by_cases hw:ws=[]
 ·exact Yae (gH h) (gH a) LH OR Iy Ik (FW _ _)
   (tuple_addW1 t b vs.toArray ws.toArray n j o g i c (cD l) (by simp[hw])) ⟨h,a,h1 hw⟩
 ·refine Yae (gH h) (gH a) LH OR Iy Ik (FW _ _)
   (tuple_addW2 t b vs.toArray ws.toArray n j o g i c (cD l) (by simpa using hw) (by rw[Nr,Nr];exact hsz)) ⟨h,a,?_⟩
  rw[e];exact v hw
noncomputable def sIx(n d:Nat):dB->Nat
 |none=>d
 |gA v=>if v<0 then(v+eL).toNat else zP3
theorem sIx_none(n d:Nat):sIx n d nO=d:=rfl
theorem sIx_nat(n d k:Nat):sIx n d (sO cT)=min k n:=by
 show(if cT<0 then(cT+eL).toNat else min (k:Int).toNat n)=min k n;rw[if_neg aQ,EW]
theorem Qpn(n d:Nat)(hd:d<=n)(o:dB):sIx n d o<=n:=by
 cases o with
 |none=>exact hd
 |some v=>
  show(if v<0 then(v+eL).toNat else zP3)<=n
  by_cases a:v<0
  ·rw[bW a];lia
  ·rw[cR a];exact D2 _ _
theorem Qf2(v:Int)(n d:Nat):(if v<0 then max (v+eL) 0 else min v eL)=((sIx n d j1:Nat):Int):=by
 show(if v<0 then max (v+eL) 0 else min v eL)=(((if v<0 then(v+eL).toNat else zP3):Nat):Int)
 by_cases a:v<0
 ·simp only[bW a];lia
 ·simp only[cR a];lia
theorem QdL(lo hi:dB)(n:Nat):Builtin.Slice.sliceAdjust lo hi 1 eL=(Sx,((sIx n n hi:Nat):Int)):=by
 have a:¬(eS<0):=by exact a'
 unfold Builtin.Slice.sliceAdjust;simp only[a,if_false];refine Prod.ext ?_ ?_
 ·cases lo with
  |none=>rfl
  |some v=>exact Qf2 v n 0
 ·cases hi with
  |none=>rfl
  |some v=>exact Qf2 v n n
theorem Qd0(i j:Nat):Builtin.Slice.slicePlaces eB kT 1=j-i:=by
 unfold Builtin.Slice.slicePlaces;have a:eS>0:=by exact a'
 simp only[a,if_true,Int.ediv_one];split<;>lia
theorem U5{v:Value}{o:dB}{Q:dB->cS}(p:IsPart v o)(h:Q o s):wpAny aX A (Builtin.Slice.slicePartIndex v) Q E s:=by
 cases p with
 |none=>exact slicePart_none h
 |int i t=>exact slicePart_int h
theorem sliceApplied_gen{e:Addr}{d c:Value}{lo hi:dB}{n:Nat}{Q:Int×Int×Nat->cS}(g:Th e d c)(pl:IsPart d lo)(f:IsPart c hi)
  (h:Q (Sx,1,sIx n n hi-sIx n 0 lo) s):wpAny aX A (Builtin.Slice.sliceApplied (aC e) (pure eL)) Q E s:=by
 obtain⟨os,a,i,b⟩:=id g;unfold Builtin.Slice.sliceApplied Builtin.Slice.sliceFields;refine Na (Na (Es a b (x:=d) rfl (Na (Es a b (x:=c) rfl (Na (Es a b (x:=.none) rfl f6))))));refine Na (slicePart_none ?_);show wpAny _ _ (if(eS==0)=true then _ else _) _ _ s;rw[if_neg aA];refine Na (U5 pl (Na (U5 f (Na f6))));show wpAny _ _ (match Builtin.Slice.sliceAdjust lo hi 1 eL with|(lo,hi)=>pure (lo,eS,Builtin.Slice.slicePlaces lo hi 1)) _ _ s;rw[QdL lo hi n];show wpAny _ _ (pure (Sx,eS,Builtin.Slice.slicePlaces Sx ((sIx n n hi:Nat):Int) 1)) _ _ s;rw[Qd0];exact Nj h
theorem Qi4(xs:dC)(i k:Nat):((List.range k).filterMap λ(m:Nat)=>xs[(eB+uL*1).toNat]?).toArray=((xs.toList.drop i).take k).toArray:=by
 have e:(λ(m:Nat)=>xs[(eB+uL*1).toNat]?)=λm=>xs[i+m]?:=by
  funext m;have:(eB+uL*1).toNat=i+m:=aU
  rw[this]
 rw[e];have:=pick_run xs i k;rw[List.filterMap_map]at this;have a:((λx=>xs[x]?)∘λx=>i+x)=λm=>xs[i+m]?:=rfl;rw[a]at this;rw[this]
theorem getItem_tuple_cut{t c:Addr}{items:dC}{j i:Value}{lo hi:dB}{Q:bI}(b:HV t)(l:Th c j i)(pl:IsPart j lo)(o:IsPart i hi)
  (hw:¬(B8=0/\S5=items.size))
  (h:Q i4 { s with heap:=s.heap.push { cls:=jO,data:=.seq ((items.toList.drop zx0).take FI).toArray } })
  (hsz:items.size<=sizeLine):wpAny aX A (getItem (aC t) (aC c)) Q E s:=by
 have a:sizeOk (.seq ((items.toList.drop zx0).take FI).toArray):=by
  show((items.toList.drop zx0).take FI).toArray.size<=sizeLine;rw[Nr,EL,D3,NR];exact Ng (Ng PJ wZ) hsz
 have p:S5<=items.size:=Qpn _ _ cO hi;obtain⟨os,d,f,r⟩:=id l;have g:s.TypeIs (aC c) "slice":=⟨os,d,f⟩
 show ji4
 first|refine Na f6|skip
 refine Na (wpAny_sequenceKey b.typeIs aA ?_)
 refine Na (EO (name:=js1) b.typeIs Ep
  (je0 b))
 show wpAny _ _ (Builtin.Tuple.tupleItemsOf (aC t)>>=_) _ _ s;show jA3 b g;rw[if_pos aA];refine Na (sliceApplied_gen l pl o ?_)
 have e:¬((((B8:Nat):Int)==0&&eS==1&&FI==items.size)=true):=by
  intro q;rw[NL,NL]at q;have u:((B8:Nat):Int)=0:=DI q.1.1;have n:S5-B8=items.size:=DI q.2;exact hw ⟨aU,by exact Fg p (Ng (dX n) wZ)⟩
 show wpAny _ _ (if(((B8:Nat):Int)==0&&eS==1&&FI==items.size)=true then _ else _) _ _ s;rw[cR e,Qi4]
 first
  |exact Na (m:=Sa) (Eh Hw a)
  |exact Na (m:=Sa) (Eh (Na (Nj Hw)) a)
  |exact Na (Na (m:=Sa) (Eh (Nj Hw) a))
  |exact Na (Na (m:=Sa) (Eh Hw a))
#print "-"
#print "-HT"
namespace L2
noncomputable abbrev TO:=St->Hp->(dB->dQ)->Prop
def PO(X:Cx)(e:zf8)(t:TO):Prop:=
 ∀(a:bP) (s:Shared) (b:St) (H:Hp) (Q:dB->dQ),cF a b->uX b ->
  wpAny bZ X.A (evalPart e X.env) (λu d=>∃o c,iG a b c d/\IsPart u o/\Q o c) X.xe s
noncomputable def QlP:TO:=λ_ H Q=>Q nO H
noncomputable def Qqh(t:TE):TO:=λa H Q=>t a H λx b=>∃i,x=aL i/\Q (sO i) b
section
variable{X:Cx}{e:Expr}{te:TE}{lo hi:zf8}{tl th:TO}{pos p2:Pos}
theorem Qmf:PO X nO QlP:=by
 show cZ a b Q;rw[evalPart_none];exact Nj ⟨nO,H,I,.none,h⟩
theorem Qmj(h:rF):PO X (sO e) (Qqh te):=by
 intro a s b H Q I hw;rw[evalPart_some];refine thn (h a s b H _ I hw) (aP u j c);show cA x g I1 d f c;obtain⟨i,rfl,q⟩:=f;show aO t d;exact⟨sO i,g,I1,PR,q⟩
def SlR(X:Cx)(r:V->dB->dB->fR):Prop:=
 ∀(a:bP) (s:Shared) (b:St) (H:Hp) (x:V) (v d c:Value) (lo hi:dB) (f:Addr) (Q:VK),cF a b->nL->Th f d c->IsPart d lo->IsPart c hi->r x lo hi H Q ->
  ∃T id,typeLookup wS "__getitem__"=pure (sO l9)/\s.TypeIs v T/\wpAny bZ X.A (getItem v (aC f)) tU X.xe s
theorem SlR.or{r i:V->dB->dB->fR}(h:SlR X r)(h':SlR X i):SlR X (λx lo hi H Q=>r x lo hi H Q\/i x lo hi H Q):=by
 intro a s b H x v d c lo hi f Q I g m l j q
 show kP q
 ·exact h a s b H x v d c lo hi f Q I g m l j q
 ·exact h' a s b H x v d c lo hi f Q I g m l j q
noncomputable def tSl(r:V->dB->dB->fR)(te:TE)(tl th:TO):TE:=λa H Q=>te a H λx d=>tl a d λl c=>th a c λu b=>r x l u b Q
theorem QiK{r:V->dB->dB->fR}(E:SlR X r)(J:rF)(F:PO X lo tl)(C:PO X hi th):PE X (.Subscript e (.Slice lo hi nO p2) pos) (tSl r te tl th):=by
 show cZ a d Q;refine Subscript_ (thn (eW J a d) (aP v m f));show cA x N I1 n t f;refine wpAny_Slice (thn (F a m d N _ I1 t) (aP g j f));show cA l M I2 z p f;refine thn (C a j d M _ I2 p) λvu c f=>?_;show cA u i I3 y o f;rw[evalPart_none];refine Nj ?_;have I4:Inv X a d i { c with heap:=zn3 }:=I3.kept (t':=c.toks) λb ob q=>Nq _ q;obtain⟨T,id,L,D,G⟩:=E a { c with heap:=zn3 } d i x v g vu l u c.heap.objs.size Q I4 n (Heap.IsSliceOf.new ..) z y o;show wpAny bZ X.A (subscriptTail e (.Slice lo hi nO p2) v (.ref c.heap.objs.size)) (EP X a d Q) X.xe { c with heap:=zn3 };exact tail_any (ops:=[kE c,v]) D L G (by show M0)
noncomputable def QhQ(xs:bD)(lo hi:dB):bD:=(xs.drop ju1).take (AQ-B3)
theorem W0(xs:bD)(lo hi:dB):(QhQ xs lo hi).length<=xs.length:=by
 unfold QhQ;rw[EL,D3];exact Ng PJ wZ
noncomputable def Qtf(K:Nd):V->dB->dB->fR:=λx lo hi H Q=>∃a b,x=aG a/\qZ /\
 ¬(TH b=0/\zw1 b=b.length)/\∀p,mG->Q (aC p) (upd H p (.tup (QhQ b lo hi)))
theorem QoZ:SlR X (Qtf X.K):=by
 intro g s u H x v y w lo hi A Q I l t n m h;obtain⟨a,d,rfl,p,hw,q⟩:=h;cases l;obtain⟨f,r,j,i⟩:=eQ p;have c:f.toArray.size=d.length:=jn2
 refine jg8;refine HT.getItem_tuple_cut j t n m (by rw[c];exact hw) ?_ (tZ c i);rw[c];refine⟨kE s,_,I.laid (t':=s.toks) (o:=.tup (QhQ d lo hi)) zA5 cO ?_,rfl,q _ (I.hok.fresh cO)⟩;exact⟨Ng (W0 d lo hi) i,_,(r.drop (zH5 d)).take (zw1 d-TH d),YaR _ _⟩
noncomputable def Qqu(K:Nd):R2:=λx y H Q=>∃a b d c,x=aG a/\y=aG b/\SqT K H a d/\SqT K H b c/\d≠[]/\S7 /\
 (c=[]->Q (aC a) H)/\(c≠[]->∀p,mG->Q (aC p) (upd H p (.tup (d++c))))
theorem Vals.nil_iff{xs:bD}{us:aZ}(r:lC):us=[]↔xs=[]:=by
 cases r with
 |nil=>simp
 |cons _ _=>simp
theorem QlJ:OpR X yV (Qqu X.K):=by
 intro f s E H x y v u Q I n m h;obtain⟨a,b,l,j,rfl,rfl,D,C,B,i,r,p⟩:=h;show oS n m;obtain⟨A,d,t,_⟩:=eQ D;obtain⟨g,c,p2,_⟩:=eQ C;refine HT.cat_tup t p2 (λz=>B (d.nil_iff.mp z)) (λz=>⟨aG a,H,I,rfl,r (c.nil_iff.mp z)⟩) (sL z) (by rw[<-d.length,<-c.length];exact i);refine⟨kE s,_,I.laid (t':=s.toks) (o:=.tup (l++j)) zA5 cO ?_,rfl,p (λw=>z (c.nil_iff.mpr w)) _ (I.hok.fresh cO)⟩;exact⟨by rw[Nw];exact i,_,d.append c,YaR _ _⟩
#print "-"
noncomputable def ixN(n:Nat)(i:Int):Ce:=if 0<=i then(if i<n then sO i.toNat else nO)else if -eL<=i then sO (i+n).toNat else nO
noncomputable def atI{a:Type}(xs:g8)(i:Int):kA a:=(ixN xs.length i).bind λj=>xs[j]?
theorem Qfs{n:Nat}{i:Int}{j:Nat}(h:ixN n i=sO j):seqIndex? i n=sO j/\j<n/\-eL<=i/\i<n:=by
 unfold ixN at h
 by_cases b:0<=i
 ·rw[bW b]at h
  by_cases a:i<n
  ·rw[bW a]at h;have e:i.toNat=j:=Eo h;exact⟨by rw[seqIndex_of b a,e],aU,aU,a⟩
  ·rw[cR a]at h;cases h
 ·rw[cR b]at h
  by_cases a:-eL<=i
  ·rw[bW a]at h;have e:(i+n).toNat=j:=Eo h;exact⟨by rw[Yaf (II.mp b) a,e],aU,a,aU⟩
  ·rw[cR a]at h;cases h
theorem QbP{a:Type}{xs:g8}{i:Int}{v:a}(h:atI xs i=sO v):∃j,seqIndex? i xs.length=sO j/\xs[j]?=sO v/\j<xs.length/\-(xs.length:Int)<=i/\MS:=by
 unfold atI at h;cases e:ixN xs.length i with
 |none=>show bT e h
 |some j=>
  rw[e]at h;obtain⟨f,d,c,b⟩:=Qfs e;exact⟨j,f,h,d,c,b⟩
theorem W2{a:Type}{xs:g8}{j:Nat}{v:a}(h:xs[j]?=sO v):atI xs kT=sO v:=by
 have b:j<xs.length:=cG h
 have e:ixN xs.length kT=sO j:=by
  unfold ixN;rw[if_pos aQ,if_pos aQ];simp
 unfold atI;rw[e];exact h
def Qab(b:Expr):Prop:=jc8 o i b
def IxR(X:Cx)(r:R2):Prop:=
 ∀(value slice:Expr) (a:bP) (s:Shared) (b:St) (H:Hp) (x y:V) (v u:Value) (Q:VK),cF a b->nL->dJ y->xK r ->
  subscripted slice false v u=operate [v,u] (getItem v u)->wpAny bZ X.A (subscriptTail value slice v u) tU X.xe s
def MtR(X:Cx)(id:String)(r:V->bD->fR):Prop:=
 ∀(a:bP) (s:Shared) (b:St) (H:Hp) (x:V) (c:bD) (v:Value) (d:aZ) (Q:VK),cF a b->nL->Vals c d->r x c H Q ->
  wpAny bZ X.A (call l9 (v::d)) tU X.xe s
section
variable{X:Cx}{a b:Expr}{ta tb:TE}{pos:Pos}
theorem IxR.or{r g:R2}(h:IxR X r)(h':IxR X g):IxR X (λx y H Q=>xK r\/xK g):=by
 intro value slice c s d H x y v u Q I f e q i
 show kP q
 ·exact h value slice c s d H x y v u Q I f e q i
 ·exact h' value slice c s d H x y v u Q I f e q i
theorem QoW{r:R2}(j:IxR X r)(m:nJ)(l:uA)(i:Qab b):PE X (BJ a b) zb7:=by
 show cZ c d Q;exact Subscript_ (Qp6 m l I h λv u e x y n I2 g f q=>j a b c e d n x y v u Q I2 g f q (i _ _))
noncomputable def QrF(K:Nd):R2:=λx y H Q=>∃p c i v,x=aG p/\y=aL i/\jH p c/\atI c i=sO v/\Q v H
noncomputable def Qr7(K:Nd):R2:=λx y H Q=>∃p c i v,x=aG p/\y=aL i/\SqT K H p c/\atI c i=sO v/\Q v H
noncomputable def Qry:R2:=λx y H Q=>∃z i c,x=aJ z/\y=aL i/\zC1/\atI z.cps.toList i=sO c/\Q (.str hG) H
theorem ix_list:IxR X (QrF X.K):=by
 intro value slice c s n H x y v u Q I D C h o;obtain⟨p,N,i,z,rfl,rfl,E,G,q⟩:=h;cases D;show aO t C;obtain⟨l,r,g,O⟩:=f0 E;obtain⟨j,d,M,R,L,J⟩:=QbP G;show fY w A f r M;show g6 F r;have P:=Us;have fin:EP X c n Q w s:=⟨z,H,I,f,q⟩
 by_cases e:0<=i
 ·have m:i.toNat=j:=by
   rw[seqIndex_of e J]at d;exact Eo d
  exact item_listR g.isList e aQ (by rw[m];show lJ A) fin o
 ·have m:(i+(l.toArray.size:Int)).toNat=j:=by
   rw[Yaf (II.mp e) L]at d;rw[Nr,<-F];exact Eo d
  exact Og (x:=w) g.isList.typeIs slot_list_getitem.lookup
   (wpAny_getItem_list_neg (Q:=λr B=>r=w/\EP X c n Q r B) g.isList (II.mp e) (by rw[Nr]<;>lia) aQ (by rw[m];show lJ A) ⟨rfl,fin⟩) o
theorem ix_tup:IxR X (Qr7 X.K):=by
 intro value slice c s e H x y v u Q I m l h o;obtain⟨p,G,i,z,rfl,rfl,A,C,q⟩:=h;cases m;show aO t l;obtain⟨n,r,f,J⟩:=eQ A;obtain⟨j,E,D,O,N,M⟩:=QbP C;show fY w F d r D;show g6 B r;have L:=Us;have fin:EP X c e Q w s:=⟨z,H,I,d,q⟩
 exact Og (x:=w) f.typeIs Ep.lookup
  (getItem_tuple (j:=j) (Q:=λr g=>r=w/\EP X c e Q r g) f aQ aQ (za6 B E) (cD F) ⟨rfl,fin⟩) o
theorem QoX:IxR X Qry:=by
 intro value slice d s B H x y v u Q I g f h l;obtain⟨z,i,c,rfl,rfl,D,n,q⟩:=h;show aO t g;show aO C f;obtain⟨j,e,r,F,p,o⟩:=QbP n;have m:z.cps.toList.length=z.length:=by simp[Str.length]
 rw[m]at e p o;have E:=Us
 exact tail_any (Ig s z t) slot_str_getitem.lookup (getItem_str (c:=c) (by
  have A:decide (i < -(2^63:Int))=false:=decide_eq_false aQ;have w:decide (i >= 2^63)=false:=decide_eq_false aQ
  rw[A,w,OS]) (by rw[e];show lJ r) ⟨.str hG,H,gJ,cN,q⟩) l
noncomputable def rIx(K:Nd):R2:=λx y H Q=>QrF K x y H Q\/Qr7 K x y H Q\/Qry x y H Q
theorem Qnt:IxR X (rIx X.K):=ix_list.or (ix_tup.or QoX)
theorem Qd7(c:aZ)(n j:Nat)(u:Value):Obj.mapSeq (·.setIfInBounds j u) { cls:=eC,data:=jV c n }={ cls:=eC,data:=.seq (c.set j u).toArray n }:=by
 simp[Obj.mapSeq]
theorem Inv.lst{d:bP}{σ:St}{H:Hp}{s:Shared}{p:Addr}{xs:bD}(I:cF d σ)(h:H p=sO iD) :
  ∃(c:aZ) (n:Nat),xJ c/\bK p=sO { cls:=eC,data:=jV c n }/\yI:=by
 obtain⟨z,c,n,r,e⟩:=sE p h;exact⟨c,n,r,e,z⟩
theorem Inv.lstUpd{c:bP}{σ:St}{H:Hp}{s:Shared}{p:Addr}{xs ys:bD}{d its':aZ}{n g:Nat}{f:Obj->Obj}(I:cF c σ)(h:H p=sO iD)
  (j:bK p=sO { cls:=eC,data:=jV d n }) (i:f { cls:=eC,data:=jV d n }={ cls:=eC,data:=.seq its'.toArray g }) (r:Vals ys its') (hz:T3) (t:Nat) :
  Inv X c σ (upd H p u9) { s with heap:=s.heap.update p f,toks:=t }:=by
 have e:(s.heap.update p f).get? p=sO { cls:=eC,data:=.seq its'.toArray g }:=by
  rw[N2 f j (by rw[i]<;>rfl),i]
 refine I.write (x:=p) (e:=p) (by rw[h];trivial) fE (λb u l q=>(N3 _ _ (EB l)).trans q) (xW e) ?_;exact⟨hz,its',g,r,e⟩
noncomputable def QnI:jm9:=λo i v H Q=>∃p c k j,o=aG p/\i=aL k/\H p=sO (.lst c)/\ixN c.length k=sO j/\Q (upd H p (.lst (c.set j v)))
theorem set_list:QrP X QnI:=by
 intro c s A H o i v J L u Q I D E C h;obtain⟨p,B,k,j,rfl,rfl,w,G,q⟩:=h;cases D;show aO t E;obtain⟨d,n,r,g,F⟩:=I.lst w;obtain⟨e,N,y,x⟩:=Qfs G;show g6 l r;have M:=Us
 have z:Inv X c A (upd H p (.lst (B.set j v))) { s with heap:=s.heap.update p (Obj.mapSeq (·.setIfInBounds j u)) }:=
  I.lstUpd w g (Qd7 d n j u) (r.set C j) (zP4 F) s.toks
 by_cases f:0<=k
 ·have m:k.toNat=j:=by
   rw[seqIndex_of f x]at e;exact Eo e
  exact PySem.W.ki_setAt g f aQ (za6 l x) jn3
 ·have m:(k+zz3).toNat=j:=by
   rw[Yaf (II.mp f) y]at e;rw[Nr,<-l];exact Eo e
  exact PySem.W.ki_setBack g (II.mp f) (za6 l y) aQ jn3
theorem Qbk(lo hi:dB)(n:Nat):(sliceBounds lo hi nO n).1=((HT.sIx n 0 lo:Nat):Int)/\(sliceBounds lo hi nO n).2.1=((HT.sIx n n hi:Nat):Int)/\(sliceBounds lo hi nO n).2.2=1:=by
 refine⟨?_,?_,rfl⟩
 ·cases lo with
  |none=>simp[sliceBounds,HT.sIx]
  |some i=>
   simp only[sliceBounds,HT.sIx,YaC,show eS>0 by decide,if_true]
   by_cases h:i<0
   ·simp only[h,if_true]<;>lia
   ·simp only[h,if_false]<;>lia
 ·cases hi with
  |none=>simp[sliceBounds,HT.sIx]
  |some i=>
   simp only[sliceBounds,HT.sIx,YaC,show eS>0 by decide,if_true]
   by_cases h:i<0
   ·simp only[h,if_true]<;>omega
   ·simp only[h,if_false]<;>omega
theorem Gm(c:aZ)(lo hi:dB):slicePick c.toArray lo hi nO=((c.drop (zH5 c)).take (zw1 c-TH c)).toArray:=by
 obtain⟨f,e,d⟩:=Qbk lo hi c.toArray.size;unfold slicePick;rw[f,e,d];simp only[sliceRange_one,pick_run,Nr]<;>rfl
noncomputable def Qt1(K:Nd):V->dB->dB->fR:=λx lo d H Q=>∃a c,x=aG a/\jH a c/\∀p,mG->Q (aC p) (upd H p (.lst (QhQ c lo d)))
theorem sl_list:SlR X (Qt1 X.K):=by
 intro f s u H x v y w lo e A Q I j t m l h;obtain⟨a,d,rfl,p,q⟩:=h;cases j;obtain⟨n,r,i,g⟩:=f0 p;show g6 c r;refine⟨"list",_,slot_list_getitem.lookup,i.isList.typeIs,?_⟩;refine wpAny_getItem_list_slice i.isList t m l .none aF ?_ (by rw[Nr]<;>exact Ng (dX c) g);rw[Gm,<-c];refine⟨kE s,_,I.laid (t':=s.toks) (o:=.lst (QhQ d lo e)) zA5 cO ?_,rfl,q _ (I.hok.fresh cO)⟩;exact⟨Ng (W0 d lo e) g,_,0,(r.drop (zH5 d)).take (HT.sIx d.length d.length e-TH d),fM⟩
noncomputable def QlC:V->Bool
 |.non=>true
 |.bl _=>true
 |oQ=>true
 |k9=>true
 |_=>false
noncomputable def eqV:V->V->Bool
 |.non,.non=>true
 |.bl a,.bl b=>a==b
 |.bl a,aL b=>(tF a)==b
 |aL a,.bl b=>a==(tF b)
 |aL a,aL b=>a==b
 |aJ a,aJ b=>a==b
 |_,_=>false
theorem Qm1{A:Around}{s:Shared}{y x:V}{u v:Value}(e:dJ y)(c:nL)(g:QlC y=true)(f:QlC x=true):SeqAt.EqAt A s u v (eqV y x):=by
 cases y with
 |non=>
  cases e;cases x with
  |non=>cases c;exact SeqAt.EqAt.same _
  |bl b=>cases c;exact SeqAt.EqAt.none_bool b
  |int b=>show aO t c;exact SeqAt.EqAt.none_int b t
  |str b=>show aO t c;exact SeqAt.EqAt.none_str b t
  |_=>exact Hh f
 |bl a=>
  cases e;cases x with
  |non=>cases c;exact SeqAt.EqAt.bool_none a
  |bl b=>cases c;exact SeqAt.EqAt.bool_bool a b
  |int b=>show aO t c;exact SeqAt.EqAt.bool_int a b t
  |str b=>show aO t c;exact SeqAt.EqAt.bool_str a b t
  |_=>exact Hh f
 |int a=>
  show aO d e;cases x with
  |non=>cases c;exact SeqAt.EqAt.int_none a d
  |bl b=>cases c;exact SeqAt.EqAt.int_bool a d b
  |int b=>show aO t c;exact SeqAt.EqAt.int_int a d b t
  |str b=>show aO t c;exact Qq a d b t
  |_=>exact Hh f
 |str a=>
  show aO d e;cases x with
  |non=>cases c;exact SeqAt.EqAt.str_none a d
  |bl b=>cases c;exact SeqAt.EqAt.str_bool a d b
  |int b=>show aO t c;exact Yaa a d b t
  |str b=>show aO t c;exact SeqAt.EqAt.str_str a d b t
  |_=>exact Hh f
 |_=>exact Hh g
theorem call_len_seq:CallR X TJ (λxs H Q=>∃p ys,xs=[aG p]/\(BY p\/zM p)/\Q (.int ys.length) H):=by
 intro i s m H xs n Q I r h;obtain⟨p,ys,rfl,d,q⟩:=h;show oW j r;have o:=Us
 show kP d
 ·obtain⟨g,e,f,l⟩:=f0 d;show g6 c e;exact Calls.call_len_list f.isList (by simp only[Nr]<;>lia) ⟨.int ys.length,H,gJ,⟨hJ,by rw[Nr,c]⟩,q⟩
 ·obtain⟨g,e,f,l⟩:=eQ d;show g6 c e;exact len_tuple f (by simp only[Nr]<;>omega) ⟨.int ys.length,H,gJ,⟨hJ,by rw[Nr,c]⟩,q⟩
theorem QaH:CallR X TJ (λxs H Q=>∃z,xs=[aJ z]/\zC1/\Q (.int z.length) H):=by
 intro c s d H xs e Q I r h;obtain⟨z,rfl,f,q⟩:=h;obtain⟨u,rfl,t,rfl⟩:=Yl r;have g:=Us;exact len_str aQ ⟨zR z,H,gJ,cN,q⟩
theorem CallR.or{f:Value}{r i:bD->fR}(h:CallR X f r)(h':CallR X f i):CallR X f (λxs H Q=>r xs H Q\/i xs H Q):=by
 intro c s d H xs e Q I g q
 show kP q
 ·exact h c s d H xs e Q I g q
 ·exact h' c s d H xs e Q I g q
theorem Wk:CallR X M2 (λxs H Q=>∃p ys,xs=[aG p]/\(BY p\/zM p)/\∀l,H l=nO->Q (aC l) (upd H l u9)):=by
 intro m s B H xs D Q I r h;obtain⟨p,ys,rfl,v,q⟩:=h;show oW C r
 have fin:∀(c:aZ),Vals ys c->T3->∀(f:Heap) (j:Nat),(∀b A,bK b=sO A->aI f b=sO A) ->
   zJ3 f s=sO { cls:=eC,dict:=nO,data:=jV c j,slots:=#[] }->EP X m B Q i4 { s with heap:=f }:=λc g i f j t e=>
  ⟨kE s,_,I.laid (t':=s.toks) t cO (show ObjOk X.prog X.w _ f _ u9 from⟨i,c,j,g,e⟩),rfl,q _ (I.hok.fresh cO)⟩
 show kP v
 ·obtain⟨c,g,x,i⟩:=f0 v;show g6 d g;obtain⟨o,y,z,n,hd⟩:=x.isList;exact call_list_seq p fE y z hd jj5 (by simp only[Nr]<;>exact Ng (dX d) i)
 ·obtain⟨c,g,x,i⟩:=eQ v;show g6 d g;obtain⟨o,y,z,n,hd⟩:=x;exact call_list_seq p wM y z hd jj5 (by simp only[Nr]<;>exact Ng (dX d) i)
theorem Gr:CallR X tH (λxs H Q=>∃p ys,xs=[aG p]/\((BY p/\∀l,H l=nO->Q (aC l) (upd H l zk3))\/(zM p/\Q (aC p) H))):=by
 intro c s t H xs z Q I r h;obtain⟨p,ys,rfl,h⟩:=h;show oW x r
 rcases h with⟨n,q⟩|⟨n,q⟩
 ·obtain⟨d,i,j,m⟩:=f0 n;show g6 f i;refine call_tuple_list j.isList (mK g y) (by simp only[Nr]<;>exact Ng (dX f) m);have I1:yN c t H s g:=I.kept (t':=s.toks) y
  have I2:Inv X c t (upd H g.objs.size zk3) { s with heap:=g.push { cls:=jO,data:=.seq d.toArray } }:=
   I1.laid (t':=s.toks) (λb o e=>k8) cO (show ObjOk X.prog X.w _ _ _ zk3 from⟨m,d,i,YaR _ _⟩)
  exact⟨.ref g.objs.size,_,I2,rfl,q _ (I1.hok.fresh cO)⟩
 ·obtain⟨d,i,j,m⟩:=eQ n;exact call_tuple_same j ⟨aG p,H,I,rfl,q⟩
def tyV(K:Nd)(T:String)(x:V)(H:Hp):Prop:=match x with
 |k9=>T="str"
 |oQ=>T="int"
 | aG p=>(T="list"/\∃c,jH p c)\/(T="tuple"/\∃o,iF p=sO o/\o.cls=jO/\o.dict=nO) \/
   (T="dict"/\((∃kvs,H p=sO nK)\/∃kvs,H p=sO (.dT kvs)))\/(T="set"/\∃S n,H p=sO (.set S n))
 |_=>False
theorem Qf9{f:bP}{σ:St}{H:Hp}{s:Shared}{T:String}{x:V}{v:Value}(I:cF f σ)(r:nL)(ty:tyV X.K T x H) :
  s.TypeIs v T/\∀a,v=aG a->∃ob,bK a=sO ob/\ob.dict=nO:=by
 cases x with
 |str z=>
  show aO t r;cases(show T="str"from ty);exact⟨Ig s z t,λ_ e=>uN e⟩
 |int i=>
  show aO t r;cases(show T="int"from ty);exact⟨typeIs_int s i t,λ_ e=>uN e⟩
 | ref p=>
  cases r
  rcases ty with⟨rfl,u,l⟩|⟨rfl,o,d,m,hd⟩|⟨rfl,d⟩|⟨rfl,S,n,d⟩
  ·obtain⟨j,_,h,_⟩:=f0 l;refine⟨h.isList.typeIs,bQ a e⟩;cases e;obtain⟨o,n,e,c,hd,_⟩:=h;exact⟨o,e,hd⟩
  ·refine⟨⟨o,I.kIn p o d,m⟩,bQ a e⟩;cases e;exact⟨o,I.kIn _ o d,hd⟩
  ·have z:∃o,bK p=sO o/\o.ExactDict:=by
    rcases d with⟨kvs,d⟩|⟨kvs,d⟩
    show zY9
    show zY9
   obtain⟨o,e,ex⟩:=z;refine⟨⟨o,e,ex.1⟩,bQ a g⟩;cases g;exact⟨o,e,ex.2.1⟩
  ·obtain⟨o,_,_,_,e,ex,_⟩:=sE p d;refine⟨⟨o,e,ex.1⟩,bQ a g⟩;cases g;exact⟨o,e,ex.2.1⟩
 |_=>exact False.elim ty
noncomputable def QsL(K:Nd)(T:String)(r:V->bD->fR)(e:TE):TE:=λd H Q=>e d H λx c=>tyV K T x c/\r x [] c Q
noncomputable def tBM(K:Nd)(T:String)(r:V->bD->fR)(f:TE)(t:TA):TE:=λc H Q=>f c H λx d=>tyV K T x d/\t c d λe g=>r x e g Q
variable{o e:Expr}{es:eE}{to:TE}{t:TA}{name:Str}{apos cpos:Pos}{T id:String}{r:V->bD->fR}
theorem Qm7(p:zd9)(slot:zb1)(g:typeOf l9=RU)(w:MtR X id r)(u:PE X o to)
  (f:attributeBase o name X.env (iC o)=iX o:=by rfl) (d:Hj:=by rfl):PE X (.Call Sg [] [] cpos) (QsL X.K T r to):=by
 show cZ c i Q;refine wpAny_Call_method0_late f d (thn (eW u c i) (aP v m l));obtain⟨x,A,I1,j,ty,n⟩:=l;obtain⟨z,y⟩:=Qf9 I1 j ty;exact⟨T,id,p,slot,g,z,y,Iz rfl (PySem.evalArgs_none (w c m i A x [] v [] Q I1 j .nil n))⟩
theorem QqZ(D:zd9)(slot:zb1)(m:typeOf l9=RU)(G:MtR X id r)(F:PE X o to)(J:PA X eO t)
  (g:attributeBase o name X.env (iC o)=iX o:=by rfl)
  (i:((backTo cpos (starEach eO X.env)).all ze8&&zn5
   && zT7)=true:=by rfl)
  (f:Hj:=by rfl) (E:q5:=by rfl) (d:(backTo cpos qE).any (·.1)=false:=by rfl) :
  PE X (.Call Sg eO [] cpos) (tBM X.K T r to t):=by
 show cZ c j Q;refine Oh g i f rfl (thn (eW F c j) (aP v z l));obtain⟨x,O,I1,n,ty,C⟩:=l;obtain⟨M,L⟩:=Qf9 I1 n ty;refine⟨T,id,D,slot,m,M,L,?_⟩;have p:=J cpos c z j O _ I1 C;rw[E]at p ⊢;refine Iz (by show(false ||(backTo cpos qE).any (·.1))=false;rw[d]<;>rfl) (OF ?_);refine thn p (aP w y l);show cA u N I2 A B l;exact G c y j N x u v w Q I2 n A B
#print "-"
def MtM(X:Cx)(id:String)(r:V->bD->fR):Prop:=
 ∀(a:bP) (s:Shared) (b:St) (H:Hp) (x:V) (c:bD) (v:Value) (d:aZ) (Q:VK),cF a b->nL->Vals c d->r x c H Q ->
  wpAny bZ X.A (call l9 (v::d)) tU X.xe s
theorem Vals.one{x:V}{us:aZ}:Vals [x] us->∃u,us=[u]/\dJ x:=by
 rintro(_|⟨r,_|_⟩);show Cy r
theorem Vals.zero:∀{us:aZ},Vals [] us->us=[]
 |_,.nil=>rfl
theorem Vals.dropLast{xs:bD}{us:aZ}(h:lC):Vals xs.dropLast us.dropLast:=by
 induction h with
 |nil=>exact .nil
 |cons r t a=>
  cases t with
  |nil=>exact .nil
  |cons q b=>exact .cons r a
theorem Vals.eraseIdx:∀{xs:bD} {us:aZ} (i:Nat),lC->Vals (xs.eraseIdx i) (us.eraseIdx i)
 |_,_,_,.nil=>.nil
 |_,_,0,.cons _ t=>t
 |_,_,i+1,.cons r t=>.cons r (Vals.eraseIdx i t)
theorem Vals.reverse{xs:bD}{us:aZ}(h:lC):Vals xs.reverse us.reverse:=by
 induction h with
 |nil=>exact .nil
 |cons r t a=>rw[Lq,Lq];exact Vals.append a (Cp r)
theorem QdF{c:Type}(l:gN c):l.eraseIdx (l.length-1)=l.dropLast:=by
 induction l with
 |nil=>rfl
 | cons a r d=>
  cases r with
  |nil=>rfl
  | cons b r=>
   have e:(a::b::r).length-1=((b::r).length-1)+1:=by
    have g:(a::b::r).length=r.length+2:=rfl;have f:(b::r).length=r.length+1:=rfl;exact rfl
   rw[e,List.eraseIdx_cons_succ,d]
   all_goals rfl
section
variable{X:Cx}{pins:bP}{σ:St}{H:Hp}{s:Shared}{l b:Addr}{xs ys zs:bD}
theorem Inv.lset{a its':aZ}{n:Nat}{f:dC->dC}{t':Nat}(I:cQ)(i:H l=sO iD)
  (e:bK l=sO { cls:=eC,data:=jV a n }) (g:f a.toArray=its'.toArray) (c:Vals ys its') (hz:T3) :
  Inv X pins σ (upd H l u9) { s with heap:=s.heap.update l (Obj.mapSeq f),toks:=t' }:=by
 have q:=YaD e f;rw[g]at q;refine I.write (x:=l) (e:=l) (by rw[i];exact trivial) fE (λj u h d=>(N3 s.heap (Obj.mapSeq f) (EB h)).trans d) (xW q) ?_;exact⟨hz,its',_,c,q⟩
theorem Inv.lnew{a:aZ}{t':Nat}(I:cQ)(c:Vals ys a)(hz:T3) :
  Inv X pins σ (upd H s.heap.objs.size u9) { s with heap:=s.heap.push { cls:=eC,data:=.seq a.toArray },toks:=t' }:=
 I.laid (λ_ _ q=>Nq _ q) cO ⟨hz,a,0,c,fM⟩
theorem Inv.fresh(I:cQ):H s.heap.objs.size=nO:=I.hok.fresh cO
theorem Inv.lstM(I:cQ)(c:H l=sO iD):yI/\∃(a:aZ) (n:Nat),xJ a/\xs.length=a.length/\bK l=sO { cls:=eC,data:=jV a n }:=by
 obtain⟨z,a,n,r,e⟩:=sE l c;exact⟨z,a,n,r,r.length,e⟩
theorem QcN{n:Nat}(h:zf9):Builtin.List.listTooLong n=false:=by
 unfold Builtin.List.listTooLong;exact decide_eq_false (N7.mpr h)
#print "-"
section
variable{X:Cx}
noncomputable def Qlt:V->bD->fR:=λx b H Q=>∃l a y,x=aG l/\b=[y]/\H l=sO oN/\Tw/\Q .non (upd H l (.lst (a++[y])))
theorem Qfa:MtM X "list.append" Qlt:=by
 intro b s o H x t v w Q I g i h;obtain⟨l,p,y,rfl,rfl,f,d,q⟩:=h;cases g;obtain⟨u,rfl,j⟩:=i.one;obtain⟨z,a,n,r,m,e⟩:=I.lstM f;refine DN NJ (gH e) O1 (OG _ _) (Yaq l a.toArray n u (by rw[Nr];exact Nv (Nk (dX m) d))) (xU e);refine⟨.non,_,I.lset (its':=a++[u]) f e aF (r.append (Cp j)) ?_,rfl,q⟩;rw[Nw,NX];exact d
noncomputable def QlK:V->bD->fR:=λx d H Q=>∃l b c a,x=aG l/\d=[aG b]/\H l=sO (.lst c)/\H b=sO oN/\jp9/\Q .non (upd H l (.lst (c++a)))
theorem Qg4:MtM X "list.extend" QlK:=by
 intro g s E H x L v M Q I m o h;obtain⟨l,b,J,F,rfl,rfl,j,C,y,q⟩:=h;cases m;obtain⟨u,rfl,p⟩:=o.one;cases p;obtain⟨z,c,n,r,B,e⟩:=I.lstM j;obtain⟨G,a,w,t,A,D⟩:=I.lstM C;show zZ4
 have d:zU6:=by
  rw[QcN f,DL];exact EC
 refine DN Ft (gH e) O2 (OH _ _)
  (AutoSeq1.list_extend_list_list_0 l c.toArray n b a.toArray w d (by rw[Nr];exact Ng (dX B) z) (Ng f dZ)) ⟨e,D,?_⟩
 refine⟨.non,_,I.lset (its':=c++a) j e aF (r.append t) ?_,rfl,q⟩;rw[Nw];exact y
noncomputable def QsD:V->bD->fR:=λx b H Q=>∃l a y,x=aG l/\b=[]/\H l=sO oN/\a[a.length-1]?=sO y/\Q y (upd H l (.lst a.dropLast))
theorem Qnc:MtM X "list.pop" QsD:=by
 intro d s w H x B v C Q I j m h;obtain⟨l,A,y,rfl,rfl,i,p,q⟩:=h;cases j;have c:=m.zero;subst c;obtain⟨z,a,n,r,g,e⟩:=I.lstM i;show fY u t o r p
 have b:a.toArray[a.toArray.size-1]?=sO u:=by
  show a.toArray[a.length-1]?=sO u;rw[<-EN,<-g];exact t
 refine DN IS (gH e) F.entry_list_pop (F.args_list_pop_1 _) (MeetsSeq.list_pop_last l a.toArray n u b (by rw[Nr];exact Ng (dX g) z)) (xU e);refine⟨y,_,I.lset (its':=a.dropLast) i e ?_ r.dropLast ?_,o,q⟩
 ·show a.toArray.eraseIdxIfInBounds (a.toArray.size-1)=a.dropLast.toArray;rw[Nr,List.eraseIdxIfInBounds_toArray,QdF]
 ·rw[OI];exact Ng wZ z
noncomputable def QsB:R2:=λx y H Q=>∃l b c a,x=aG l/\y=aG b/\H l=sO (.lst c)/\H b=sO oN/\jp9/\∀p,mG->Q (aC p) (upd H p (.lst (c++a)))
theorem QjY:OpR X yV QsB:=by
 intro d s A H x y v u Q I g f h;obtain⟨l,b,D,B,rfl,rfl,o,p,j,q⟩:=h;show oS g f;obtain⟨z,c,n,r,G,e⟩:=I.lstM o;obtain⟨C,a,F,i,m,w⟩:=I.lstM p;refine PySem.P.add_list e w ?_ (by rw[Nr,Nr];omega);have t:c.toArray++a.toArray=(c++a).toArray:=aY
 rw[t];exact⟨xQ,_,I.lnew (t':=s.toks) (r.append i) (by rw[Nw];exact j),rfl,q _ I.fresh⟩
#print "-"
#print "-L2"
namespace Att
open PySem PySem.W PySem.Calls PyProof.Rows
theorem Uy{P:Params}{h:Heap}:∀(ns:eX) (vs:aZ),WellAll P h vs (ns.map WData.int)->Mq:=by
 intro ns
 induction ns with
 |nil=>
  intro vs w;show bT D4 w;exact .nil
 | cons n ns c=>
  intro vs w;rw[NA]at w;cases w with
  |cons a b=>
   cases a;exact .cons _ _ (c _ b)
theorem QfY{l:OpenLaw}{n:Nat}(u:l.most=sO n){P:Params}{h:Heap}{args:List WData}{vals:aZ}
  (b:l.row.toRowW.claim.pre args=true) (i:WellAll P h vals args) :
  ∃a vs ns,vals=[eK a]/\args=[WData.list (ns.map WData.int)]/\aI h a=sO { cls:=eC,data:=KT }/\Mq/\ze0:=by
 have j:WShape.hasAll [] args [.list .int]=true:=(pre_splitW b).1;have m:l.pre.holds [] { args:=args }=true:=(pre_splitW b).2;obtain⟨d,r,rfl,x,w⟩:=hasAllW_cons j;obtain rfl:=hasAllW_nil w;obtain⟨y,rfl,v⟩:=hasW_list x;obtain⟨ns,rfl⟩:=items_int v
 have c:ze0:=by
  unfold OpenLaw.pre at m
  have g:(WTm.not (.lt (.lit (.int eL)) (.len (.arg 0)))).holds [] { args:=[.list (ns.map .int)] }=true:=by
   have g:=(holds_andW m).1;rw[u]at g;exact g
  have f:=condW_of g (w_not (w_lt w_lit (w_len_list (w_arg rfl))));rw[Nz]at f;refine Nat.le_of_not_lt (fX q);have s:eL<((ns.length:Nat):Int):=fZ
  first
   |(rw[oF s]at f;exact absurd f aA)
   |(simp at f;omega)
 cases i with
 |cons p o=>
  cases o;cases p with
  |list t e=>exact⟨_,_,ns,rfl,rfl,t,Uy ns _ e,c⟩
theorem QgV(l:OpenLaw)(args:List WData):l.row.toRowW.claim.post args Ms args=true:=
 postW_of (r:=l.row.toRowW) (X:=(true==true))
  (show WShape.has [] Ms .bool=true by first|rfl|decide|simp[WShape.has,WShape.arms,WShape.armsAll])
  (show(WTm.eq .res (.lit Ms)).value [] { args:=args,res:=sO Ms,after:=args }=sO (.bool (true==true))from w_eq_bool (w_res rfl) w_lit) rfl
theorem attach_call{l:OpenLaw}{n:Nat}{q:Program}{e:aD}{D:(Str->jS)->zV}{C:World->zV}{d:DefRec}
  (I:l.most=sO n) (y:zz4)
  (call:∀(w:World) (c b:Shared) (t u:c') (p:Addr) (o:Obj) (pm cd h:Value) (a:Addr) (vs:aZ) (ns:eX),
   Ground q e [] D w c t u b.heap->C w b.heap ->
   jF b p=sO o->o.data=.func (docDef d.name d.params d.body d.scope pm cd h)->b.heap.CodeRec cd d.name->t d.name=sO (aC p) ->
   jF b a=sO { cls:=eC,data:=KT }->Mq->ze0->b.gens=#[] ->
   codeAny (model l.prog w) callerA (.call (aC p) ⟨[aG a],[]⟩) (zm9 s b) b) :
  WalkO q e D C l.row.toRowW d [] zA6:=by
 intro w c b t u G Y p o pm cd h Q kV H hd z B x M args vals as i A E v L;obtain rfl:Q=.none:=Dflts.none B y;obtain rfl:kV=.none:=Dflts.noKw B;obtain⟨a,vs,ns,rfl,rfl,j,g,m⟩:=QfY I i v;refine enter_call (D1 (call w c b t u p o pm cd h a vs ns G Y H (fd_plain hd) z x j g m M) (aP r s F));obtain⟨rfl,P,O,N⟩:=F;exact⟨.inl ⟨.bool true,.bool true,[],rfl,d7,.bool true,QgV l _,λ_=>⟨List.Pairwise.nil,λ_ J=>(nomatch J)⟩⟩,P,O,N⟩
#print "-Att"
namespace L2
theorem QeL{vs:aZ}{ns:eX}(h:Mq):Vals (pK V) vs:=by
 induction h with
 |nil=>exact .nil
 |cons _ t _ i=>exact .cons (hL t) i
def Qq3(H:Hp):Prop:=∀b,gM\/∃o a,H b=sO (.frz o oN)
theorem QiS{P:Program}{w:World}{K:Nd}{t M:c'}{CX:CXT}{k:Nat}{S a:Addr}{fd:FuncData}{x:Str}{sp:Sp}{c:Shared}{vs:aZ}{ns:eX}
  (KX:K.In c.heap) (C:c.heap.Ns mainGlobals t) (g:c.heap.Ns builtinsNs M) (Q:∀x:Str,qR->M x=qS) (D:c.heap.NoLimit) (hg:c.gens=#[])
  (J:jF c a=sO { cls:=eC,data:=KT }) (hi:Mq) (X:ns.length<=sizeLine) (hr:zM3)
  (F:∀base:Heap,K.In base->zE2 t->FnOk P w K t base CX k S fd [x] sp) (l:∀(s:Shared) (u:Value),ji5)
  (N:∀H:Hp,Qq3 H->SqL K H a (pK V)->sp [aG a] H (λv _=>v=dM) zM4)
  (R:∀H e i,CX [] H c TK e i->False) :
  codeAny wJ callerA (.call (aC S) ⟨[aG a],[]⟩) (zm9 i c) c:=by
 have U:=QeL hi;have y:=hi.length
 have core:∀H:Hp,Qq3 H->SqL K H a (pK V)->Pb H c->(∀b,H b≠nO->b=a)->(H a≠nO->iF a=nO) ->
   codeAny wJ callerA (.call (aC S) ⟨[aG a],[]⟩) (zm9 i c) c:=by
  intro H Y hS B Z hK;have f:∀{b:Addr} {o:Obj},jF c b=sO o->gM->(QhM c.heap H).get? b=sO o:=λe n=>Qim e n
  have L:∀{b:Addr} {o:Obj} {G:Array DictEntry} {I:Nat},jF c b=sO o->o.data=.dict G I->gM:=λ{b o G I} e d=>by
   cases q:H b with
   |none=>rfl
   |some u=>
    have T:b=a:=Z b (jA q);subst T;show bT J e;have d':Data.seq vs.toArray _=Data.dict G I:=d;cases d'
  have j:∀{b:Addr} {m:c'},c.heap.Ns b m->(QhM c.heap H).Ns b m:=λ{b m} ⟨o,G,I,e,d,r⟩=>⟨o,G,I,f e (L e d),d,r⟩
  have E:K.In zJ4:=λb o e=>f (KX b o e) (by
   cases q:H b with
   |none=>rfl
   |some u=>
    have T:b=a:=Z b (jA q);subst T
    rw[hK (jA q)]at e;cases e)
  have hM:Mod K t zJ4:=⟨E,j C,⟨M,j g,Q⟩,let⟨mc,h1,h2⟩:=D;⟨mc,j h1,h2⟩⟩
  have e0:Env0 P w K t zJ4 callerA [] c H:=⟨rfl,hM,λb o e=>Qly e,Nu (QeD _ _),trivial,λb g=>absurd (show b∈([]:cV)from g) aF,B,.of_eq hg⟩
  refine D1 ((F _ E (j C)).run callerA [] c H ⟨[aG a],[]⟩ [aG a] [aG a] _ _ hr e0 (l c (aC a)) (.cons rfl .nil) (N H Y hS)) (aP r i h);cases r with
  |error e=>exact(R H e i h).elim
  | ok fl=>
   cases fl with
   |next=>exact pJ h
   |brk=>exact pJ h
   |cont=>exact pJ h
   | ret u=>
    obtain⟨v,H',os,bare,un,A,r',q⟩:=h;have q':v=dM:=q;subst q';obtain rfl:u=Value.bool true:=r';refine⟨rfl,OldK.of_keep (aP b o e),os,bare⟩;cases q:H b with
    |none=>exact un.keep b o e q (by intro z;exact absurd (show b∈([]:cV)from z) aF) aF
    |some u=>
     rcases Y b with z|⟨ob,xs,z⟩
     ·show bT q z
     ·have z2:=un.frzs b ob _ z;obtain⟨e1,_⟩:=B b _ z;obtain⟨e2,_⟩:=A b _ z2;show bT e e1;exact e2
 cases O:iF a with
 |some o=>
  have e:=KX a o O;show bT J e;refine core (λ_=>nO) (λ_=>uG) (.inr ⟨_,vs.toArray,_,O,rfl,rfl,rfl,by rw[Nr,y];exact X,cL U⟩) (λb u z=>by have p:(nO:zk5)=sO u:=z;cases p) (λb z=>nE z) λz=>nE z
 | none=>
  refine core (λb=>if b=a then sO (.frz { cls:=eC,data:=KT } (.lst (pK V)))else nO) (sL b) (.inl (.inr ⟨{ cls:=eC,data:=KT },nC⟩)) (jJ b u z) (mK b z) λ_=>O
  ·show xX g
   ·exact .inr ⟨_,_,bW g⟩
   ·exact .inl (if_neg g)
  ·show xX g
   ·have p:=(if_pos g).symm.trans z;cases p;subst g;exact⟨J,by rw[Nz];exact X,vs,_,U,J⟩
   ·have p:=(if_neg g).symm.trans z;cases p
  ·show xX g
   ·exact g
   ·exact absurd (if_neg g) z
noncomputable abbrev KOf{K:Nd}{h:Heap}(_:nQ):Nd:=K
theorem Qkb{l:PySem.W.OpenLaw}{n k:Nat}{q:Program}{i:aD}{Z:(Str->jS)->zV}{I:World->zV}{d:DefRec}{K:Params->Nd}{CX:World->CXT}{sp:World->Sp}{x:Str}
  (M:l.most=sO n) (A:zf9) (C:zz4) (L:zM3)
  (Q:∀(w:World) (h:Heap),I w h->Tx)
  (F:∀(w:World) (m:c') (t:Addr) (h:Heap),Tx->tG m->m d.name=sO (aC t) ->
   ∃fd:FuncData,(∀(s:Shared) (u:Value),ji5) /\
    ∀base:Heap,(K w.params).In base->zE2 m->FnOk l.prog w Mt m base (CX w) k t fd [x] (sp w))
  (z:∀(w:World) (H:Hp) (a:Addr) (ns:eX),ze0->Qq3 H->SqL Mt H a (pK V)->sp w [aG a] H (λv _=>v=dM) zM4)
  (D:∀(w:World) (H:Hp) (s:Shared) (e:Value) (y:Shared),CX w [] H s TK e y->False) :
  YaS q i Z I l.row.toRowW d [] zA6:=by
 refine Att.attach_call M C λw E p m mb t o pm cd X a vs ns G Y ho hd O B r j c N=>?_;have J:=Q w _ Y;obtain⟨fd,P,U⟩:=F w m t _ J G.T.g B;exact QiS J G.T.g G.T.b G.T.builtins G.T.nolimit N r j (Ng c A) L U P (λH S R=>z w H a ns c S R) λH e y=>D w H p e y
noncomputable def KB(s:Stmt):Arguments:=match s with
 |.FunctionDef _ a _ _ _ _ _ _ _ _=>a
 |_=>{ posonlyargs:=[],args:=[],vararg:=nO,kwonlyargs:=[],kw_defaults:=[],kwarg:=nO,defaults:=[] }
noncomputable def VH(s:Stmt):jX:=match s with
 |.FunctionDef _ _ b _ _ _ _ _ _ _=>b
 |_=>[]
noncomputable def Qn(s:Stmt):Scope:=match s with
 |.FunctionDef _ _ _ _ _ _ a _ _ _=>a
 |_=>{ kind:=.function,names:=[],isGenerator:=false,isCoroutine:=false }
noncomputable abbrev CX0:CXT:=λ_ _ _ _ _ _=>False
noncomputable abbrev E0:XK:=zM4
theorem QqR{X:Cx}:Qco CX0 X E0:=λ_ _ _ _ _ _ _ h=>h.elim
structure Fun(K:Nd)(x qual:Str)(st:Stmt)(f:Addr)(fd:FuncData):Prop where
 ex:∃(oc:Value) (od:dW) (kV doc pm:Value) (an:dW) (cdv ct:Value) (osl:oZ),
  fd=DQ x qual Aj pQ jZ .none kV doc pm an cdv ct/\iF f=jq2/\La K cdv qual=true
 kp:DY K (aC f)=true
section
variable{P:Program}{w:World}{K:Nd}{mg:c'}{base:Heap}
theorem Fun.ok{x b:Str}{st:Stmt}{f:Addr}{fd:FuncData}{N ps:aD}{k:Nat}{sp:Sp}(F:zP5 b)(S:FnScope N ps jZ)(len:zo9)
  (d:∀(c:Value) (A:Around) (a:fT) (s:Shared) (H:Hp) (vs:bD) (Q:VK) (E:XK),zo1 b c->MQ ->
   ∃t,PSs (Qg8 CX0 P w K mg base N b jZ f c A a s H E).nox pQ t/\t { nx:=λ_ m=>Q .non m,rt:=Q } BL H):FnOk P w K mg base CX0 (k+1) f fd ps sp:=by
 obtain⟨o,n,kV,l,pm,p,c,ct,i,rfl,lk,g⟩:=F.ex;refine QkL lk g S len λA a s H vs Q E j e=>?_;obtain⟨t,h,q⟩:=d c A a s H vs Q E j e;exact⟨t,h.nox,q⟩
theorem Fun.binds{x a:Str}{st:Stmt}{f:Addr}{fd:FuncData}{ps:aD}(F:zP5 a)
  (h:∀(kV b pm:Value) (d:dW) (c ct:Value) (us:aZ),zA4->bindArgs (DQ x a Aj pQ jZ .none kV b pm d c ct) MR=pure BW):Bi:=by
 obtain⟨j,i,kV,b,pm,d,c,ct,e,rfl,lk,g⟩:=F.ex;exact .all (h kV b pm d c ct)
theorem Qcv{x a:Str}{st:Stmt}{f:Addr}{i:Value}{h g:dW}{e:oZ}{kV d pm b ct:Value}(l:iF f=sO ⟨i,h,.func (DQ x a Aj pQ jZ .none kV d pm g b ct),e⟩)
  (c:La K b a=true) (k:DY K (aC f)=true):Fun K x a st f (DQ x a Aj pQ jZ .none kV d pm g b ct):=⟨⟨i,h,kV,d,pm,g,b,ct,e,rfl,l,c⟩,k⟩
#print "-"
section
variable{X:Cx}
theorem pv(i:Nat){x:Str}{pos:Pos}(hN:kJ:=by rfl)(b:Be:=by first|exact Or.inl rfl|exact Or.inr dA|exact Or.inr zd7)(hd:gB:=by decide)
  (a:zs2:=by decide):PE X mX (QrX i):=QjS hN b hd a
#print "-"
theorem QjO{A B:Prop}(h:B):if false=true then A else B:=by
 rw[if_neg EC];exact h
theorem Qjq{A B:Prop}(h:A):if true=true then A else B:=by
 rw[nC];exact h
section
variable{κ:Type}[DecidableEq κ]
noncomputable def Qem(kvs:mY)(k:κ):kA V:=(kvs.find? vK).map (·.2)
noncomputable def QiT(kvs:mY)(k:κ)(v:V):mY:=
 if(kvs.any vK)=true then kvs.map (λa=>B4 a v)else kvs++[(k,v)]
theorem QiU{p:κ×V}{r:mY}{k:κ}(e:p.1=k):Qem (p::r) k=Ax:=by simp[Qem,Di,e]
theorem QhU{p:κ×V}{r:mY}{k:κ}(e:¬p.1=k):Qem (p::r) k=Qem r k:=by simp[Qem,Di,e]
theorem QbJ(kvs:mY)(k:κ)(v:V):(QiT kvs k v).length<=kvs.length+1:=by
 unfold QiT;split
 ·rw[Nz];exact AB
 ·rw[Nw,N6,IJ];lia
theorem RelO.getD{o:kA V}{u:jS}{d:V}{d':Value}(r:RelO o u)(a:h8 d d'):RelV (o.getD d) (u.getD d'):=by
 cases o with
 |none=>cases u with
  |none=>exact a
  |some _=>show Tv r
 |some _=>cases u with
  |none=>show Tv r
  |some _=>exact r
theorem KV.val{kvs:mY}{vs:yS}(r:wU)(k:κ):RelO (Qem kvs k) (valueAt vs k):=by
 unfold KV at r
 induction r with
 |nil=>exact True.intro
 | @cons p q ps a h t f=>
  show fV d g h
  by_cases e:p.1=k
  ·have c:q.1=k:=d.symm.trans e;have b:valueAt (q::a) k=sO q.2:=by simp[valueAt,Di,c]
   rw[QiU e,b];exact g
  ·have c:¬q.1=k:=λz=>e (eI d z);have b:valueAt (q::a) k=valueAt a k:=by simp[valueAt,Di,c]
   rw[QhU e,b];exact f
theorem KV.any{kvs:mY}{vs:yS}(r:wU)(k:κ):(kvs.any vK)=vs.any vK:=by
 unfold KV at r
 induction r with
 |nil=>rfl
 |cons h t b=>rw[Dk,Dk,b,h.1]
theorem KV.repl{kvs:mY}{vs:yS}(r:wU)(k:κ){y:V}{u:Value}(c:dJ y) :
  KV (kvs.map λa=>B4 a y) (vs.map λa=>B4 a u):=by
 unfold KV at r ⊢
 induction r with
 |nil=>exact .nil
 |@cons p q ps g h t d=>
  rw[NA,NA];refine .cons ?_ d;show fV b f h
  by_cases e:p.1=k
  ·rw[bW e,if_pos (b.symm.trans e)];show lL b c
  ·rw[cR e,if_neg (λz=>e (eI b z))];show lL b f
theorem KV.put{kvs:mY}{vs:yS}(r:wU)(k:κ){y:V}{u:Value}(a:dJ y):KV (QiT kvs k y) (stored vs k u):=by
 unfold QiT stored;rw[r.any k]
 by_cases e:(vs.any λb=>decide (b.1=k))=true
 ·rw[bW e,bW e];exact r.repl k a
 ·rw[cR e,cR e];exact Paired.snoc r ⟨rfl,a⟩
theorem KV.length{kvs:mY}{vs:yS}(r:wU):kvs.length=vs.length:=Du r
#print "-"
theorem Qk0{P:Program}{w:World}{k:Key}{u:Value}(r:RelV (kV k) u):(KO P w).is k u=true:=by
 cases k with
 |inl i=>obtain⟨t,e⟩:=(S6 r);subst e;exact QbG P w i t
 |inr x=>obtain⟨t,e⟩:=(vG u x r);subst e;exact QbN P w x t
section
variable{P:Program}{w:World}{H:Hp}{h:Heap}{a:Addr}
theorem Qq0{u:HO}(ok:lB)(e:Rd H a u):Bx u:=e.ok ok
theorem QiC{kvs:gU V}(ok:lB)(e:Rd H a nK):zm6:=
 show ObjOk P w H h a nK from Qq0 ok e
theorem QqD{kvs:gU V}(ok:lB)(e:H a=sO nK):zm6:=QiC ok (iS e)
#print "-"
def DGet(H:Hp)(a:Addr)(y:V)(r:kA V):Prop:=∃kvs k,Rd H a nK/\y=kV k/\r=Qem kvs k
def DPut(H:Hp)(a:Addr)(y v:V)(b:Hp):Prop:=∃kvs k,H a=sO nK/\y=kV k/\T4/\b=upd H a (.dK (QiT kvs k v))
theorem DGet.k{H:Hp}{a:Addr}{kvs:gU V}{k:Key}(e:H a=sO nK):DGet H a (kV k) (Qem kvs k):=⟨kvs,k,dU e,rfl,rfl⟩
theorem DPut.k{H:Hp}{a:Addr}{kvs:gU V}{k:Key}{v:V}(e:H a=sO nK)(b:T4):DPut H a (kV k) v (upd H a (.dK (QiT kvs k v))):=⟨kvs,k,e,rfl,b,rfl⟩
section
variable{X:Cx}{pins:bP}{σ:St}{H:Hp}{s:Shared}{a:Addr}{y v:V}{u r:Value}{o:kA V}{A:Around}{E:bI}
theorem Inv.big(I:cQ):sysModules<s.heap.objs.size:=by
 have h:mainGlobals<s.heap.objs.size:=(I.mod.glob.keeps I.bk).lt;exact EG aA h
theorem Qfd{Q:bI}(m:A6<cLine)(I:cQ)(g:DGet H a y j1)(f:dJ y)(h:∀w' c,B' H c->h8 v w'->Q w' c) :
  wpAny bZ A (getItem (aC a) u) Q E s:=by
 obtain⟨kvs,k,e,i,l⟩:=g;subst i;obtain⟨z,hd,d,rel,j⟩:=QiC I.hok e;obtain⟨w',hw,b⟩:=RelO.some_of (v:=v) (o:=valueAt d k) (by rw[l];exact rel.val k);exact wpAny_getItem_of (Qk0 f) j.mapOf hw (h w' _ A3 b)
theorem Qlu{h':Heap}{t':Nat}{ob:HO}(I:cQ)(c:Mut (H a))(d:lQ a)(f:∃q,aI h' a=sO q)(new:ObjOk X.prog X.w (upd H a ob) h' a ob) :
  Inv X pins σ (upd H a ob) { s with heap:=h',toks:=t' }:=
 I.write (x:=a) (e:=a) c fE (λb q g z=>(d.2 b g).trans z) f new
theorem Qop{P:Program}{w:World}{b:Hp}{h':Heap}{kvs:gU V}{vs:List (Key×Value)}(z:SO)(hd:SJ)(rel:wU)(dd:h'.DictOf (KO P w) a vs) :
  ObjOk P w b h' a nK:=⟨z,hd,vs,rel,dd⟩
theorem Qg7{d:Hp}{Q:Unit->cS}(J:A6<cLine)(I:cQ)(g:DPut H a y v d)(i:dJ y)(j:h8 v r)(h:∀c,B' d c->Q () c) :
  wpAny bZ A (setItem (aC a) u r) Q E s:=by
 obtain⟨kvs,k,e,D,l,F⟩:=g;subst D F;obtain⟨z,hd,f,rel,G⟩:=QqD I.hok e;have m:f.length<=sizeLine:=by rw[<-rel.length];exact z
 have x:(QiT kvs k v).length<=sizeLine:=by have:=QbJ kvs k v;lia
 refine wpAny_setItem_pairs (hsz:=m) (Qk0 i) G λC b p=>h _ ?_;have B:∃q,aI C a=sO q:=let⟨q,_,_,t,_⟩:=b;⟨q,t⟩
 exact Qlu I (zy1 e) p B (Qop x hd (rel.put k j) b)
#print "-"
def Qsh(i:Expr):Prop:=jc8 a b i
theorem Qkr{prog:Program}{w:World}{A:Around}{E:bI}{s:Shared}{env:Env}{value slice:Expr}{pos:Pos}{T id:String}{Q:bI}
  (l:typeLookup wS "__getitem__"=pure (sO l9)) (j:Qsh slice)
  (h:wpAny aX A (eval value env) (λo d=>wpAny aX A (eval slice env) (λi a=>a.TypeIs o T/\wpAny aX A (getItem o i) Q E a) E d) E s) :
  wpAny aX A (eval (.Subscript value slice pos) env) Q E s:=by
 refine Subscript_ (NZ h (λo d f=>NZ f (jJ i a b) (gL x)) (gL x));show AA g b;unfold subscriptTail;show pW;rw[getitemInPython_of_ne g.not_modules];refine Na (FO g l ?_)
 have fin:wpAny aX A (subscripted slice false o i) (λr c=>wpAny aX A (letTemporaryGo value o r>>=λ_=>pure r) Q E c) E a:=by
  rw[j o i];exact wpAny_operating (NZ b (λr c e=>Na (wpAny_letTemporaryGo (Nj e))) (gL x))
 first
  |exact Nj (Na fin)
  |exact Na (Nj (Na fin))
  |exact Na fin
theorem QbD{X:Cx}{b:bP}{σ:St}{H:Hp}{s:Shared}{a:Addr}{y:V}{o:kA V}(I:cF b σ)(g:DGet H a y o):s.TypeIs (aC a) "dict":=by
 obtain⟨kvs,k,e,_,_⟩:=g;obtain⟨_,_,d,_,c⟩:=QiC I.hok e;exact c.typeIs
noncomputable def Qp5(d ty:TE):TE:=λb H Q=>d b H λx e=>ty b e λy c=>∃a v,x=aG a/\DGet c a y j1/\Q v c
noncomputable def Qnb(e ty d:TE):TS:=λD b H=>d b H λv h=>e b h λx g=>ty b g λy f=>∃a c,x=aG a/\DPut f a y v c/\D.nx b c
section
variable{X:Cx}{o i e value:Expr}{pos pos' tpos:Pos}{td ty tv:TE}
theorem Qk9(r:zg0<cLine)(w:PE X o td)(hi:PE X i ty)(t:Qsh i):PE X (BJ o i) (Qp5 td ty):=by
 show cZ b f Q;refine Qkr Lz.lookup t (thn (eW w b f) (aP u j c));show cA x B I1 m p c;refine thn (hi b j f B _ I1 p) (aP F E c);obtain⟨y,z,I2,l,a,v,ex,g,n⟩:=c;subst ex;obtain rfl:u=eK a:=m;exact⟨QbD I2 g,Qfd r I2 g l λC D I3 d=>⟨v,z,I3,d,n⟩⟩
theorem Qmq(B:zg0<cLine)(E:PE X o td)(hi:PE X i ty)(z:PE X value tv)(C:swapsWith value (sO SE) pos.line X.env=oM) :
  PS X (.Assign SK value pos) (Qnb td ty tv):=by
 show cZ b d D;refine wpAny_Assign_Subscript (thn (eW z b d) (aP r j c)) C;show cA v J I1 n w c;refine thn (E b j d J _ I1 w) (aP u f c);show cA x G I2 m t c;refine thn (hi b f d G _ I2 t) (aP N M c);obtain⟨y,O,I3,l,a,F,ex,g,p⟩:=c;subst ex;obtain rfl:u=eK a:=m;exact Qg7 B I3 g l n λL I4=>⟨d,F,I4,p⟩
#print "-"
theorem QiO{P:Program}{w:World}{H:Hp}(h:Heap)(a:sysModules<h.objs.size):ObjOk P w H (h.push { cls:=wE,data:=A7 }) h.objs.size (.dK []):=
 ⟨Eg _,beq_eq_false_iff_ne.mpr (EB (NY a)),[],.nil,Heap.DictOf.new h⟩
noncomputable def QmW:TE:=λ_ H Q=>∀p,mG->Q (aC p) (upd H p (.dK []))
section
variable{X:Cx}{pos:Pos}
theorem Qij:PE X (.Dict [] [] pos) QmW:=λb s c H Q I h=>
 wpAny_Dict_empty ⟨kE s,_,I.laid (a:=s.heap.objs.size) (o:=.dK []) (t':=s.toks) (λ_ _ q=>Nq _ q) cO (QiO s.heap I.big),rfl,h _ (I.hok.fresh cO)⟩
#print "-"
structure M1(X:Cx)(o:Expr)(m:Str)(apos:Pos)(e:Expr)(cpos:Pos):Prop where
 base:attributeBase o m X.env (iC o)=iX o
 few:((backTo cpos (zM5 e)).all ze8&&zn5
  && decide (([e]:eE).length+jx6+ja6<30))=true
 line:Hj
 trees:backTo cpos (zM5 e)=[(false,iX e)]
section
variable{X:Cx}{pins:bP}{σ:St}{H:Hp}{s:Shared}{a:Addr}{y d:V}{u r:Value}{o:kA V}{A:Around}{E:bI}
theorem QnP{Q:bI}(n:A6<cLine)(I:cQ)(g:DGet H a y o)(f:dJ y)(i:h8 d r)(h:∀w' b,B' H b->RelV (o.getD d) w'->Q w' b) :
  wpAny bZ A (call (.builtin "dict.get") [aG a,u,r]) Q E s:=by
 obtain⟨kvs,k,e,j,l⟩:=g;subst j;obtain⟨z,hd,m,rel,c⟩:=QiC I.hok e;refine call_meetsIn Os c.typeIs PySem.F.entry_dict_get (PySem.F.args_dict_get_3 _ _ _) (meets_dict_get_default (KO X.prog X.w) a (Qk0 f) hd r) ⟨_,c.mapOf,h _ _ A3 ?_⟩;rw[l];exact(rel.val k).getD i
#print "-"
#print "-L2"
namespace Mi
open L2
inductive W where
 |non|bl (b:Bool)|int (i:Int)|str (x:Str)|tup (ws:aH)|lst (ws:aH)|frz (ws:aH)|ref (n:Nat)|ty (n:String)
inductive MO where
 |lst (ws:aH)
 |dic (kvs:gU W)
 |dct (kvs:List (W×W))
 |ins (C:Addr) (fs:List (Str×W))
noncomputable abbrev MH:=pR
noncomputable abbrev MSt:=ze5 W
structure Rn where
 ρ:Nat->Addr
 N:Nat
 F:Hp
 G:Hp
structure Ext(R R':Rn):Prop where
 n:R.N<=R'.N
 ρ:∀n,n<R.N->R'.ρ n=uS
 f:y8
 g:R'.G=R.G
theorem Ext.refl(R:Rn):Ext R R:=⟨Ny _,λ_ _=>rfl,gL h,rfl⟩
theorem Ext.trans{R R1 R2:Rn}(a:kW R1)(b:zk9):kW R2:=
 ⟨Ng a.n b.n,λn h=>(b.ρ n (Np h a.n)).trans (a.ρ n h),λx o h=>b.f x o (a.f x o h),b.g.trans a.g⟩
theorem Jv{K:Nd}(e:ju2)(h:SqT K F a xs):SqT K b a xs:=by
 show ja7
 ·exact jq3
 ·exact gY h
theorem ZA{K:Nd}(e:ju2)(h:Ps F):Ps b:=by
 show ja7
 ·exact jq3
 ·exact gY h
section
variable(K:Nd)
mutual
noncomputable def Rw(R:Rn):W->V->Prop
 |.non,v=>v=.non
 |.bl b,v=>v=.bl b
 |aL i,v=>v=aL i
 |aJ x,v=>v=aJ x
 |fA,v=>∃a xs,v=aG a/\zb3/\Rws R ws xs
 |eZ,v=>∃a xs,v=aG a/\R.F a=sO iD/\Rws R ws xs
 |oP,v=>∃a xs,v=aG a/\Md/\Rws R ws xs
 |aG n,v=>n<R.N/\v=.ref kQ
 |.ty n,v=>v=.ty n
noncomputable def Rws(R:Rn):aH->bD->Prop
 |[],vs=>vs=[]
 |w::ws,vs=>∃v a,vs=v::a/\Rw R w v/\Rws R ws a
end
#print "-"
section
variable{K:Nd}{R R':Rn}
mutual
theorem Rw.mono(e:jY):∀(w:W) (v:V),iB->nU R' w
 |.non,_,h=>by show kZ
 |.bl _,_,h=>by show kZ
 |oQ,_,h=>by show kZ
 |k9,_,h=>by show kZ
 |.ty _,_,h=>by show kZ
 |fA,_,h=>by
  show AR b c d;exact⟨a,xs,b,Jv e.f c,zC5⟩
 |eZ,_,h=>by
  show AR b c d;exact⟨a,xs,b,e.f a _ c,zC5⟩
 |oP,_,h=>by
  show AR b c d;exact⟨a,xs,b,ZA e.f c,zC5⟩
 |aG n,_,h=>by
  show CA h;show fV b c h;exact⟨Np b e.n,by rw[e.ρ n b];exact c⟩
theorem Rws.mono(e:jY):∀(ws:aH) (vs:bD),kI->Rws K R' ws vs
 |[],_,h=>by show MK;exact h
 |w::ws,_,h=>by
  show MK;show cA v a d c b h;exact⟨v,a,d,Rw.mono e w v c,Rws.mono e ws a b⟩
end
theorem Rws.nil_iff:Rws K R [] vs↔vs=[]:=by unfold Rws;exact Iff.rfl
theorem Rws.cons_iff:Rws K R (w::ws) vs↔∃v a,vs=v::a/\iB/\Rws K R ws a:=by
 constructor
 ·intro h;unfold Rws at h;exact h
 ·intro h;unfold Rws;exact h
theorem Rws.nil:Rws K R [] []:=Rws.nil_iff.mpr rfl
theorem Rws.cons(a:iB)(b:kI):Rws K R (w::ws) (v::vs):=Rws.cons_iff.mpr ⟨v,vs,rfl,a,b⟩
theorem Rws.paired:∀{ws:aH} {vs:bD},kI->Paired (Rw K R) ws vs:=by
 intro ws
 induction ws with
 |nil=>
  intro vs h;show lR h;exact .nil
 |cons w ws d=>
  intro vs h;show lN h v c a b;exact .cons a (d b)
theorem Rws.of{ws:aH}{vs:bD}(p:Paired (Rw K R) ws vs):kI:=
 p.rec Rws.nil λa _ h=>Rws.cons a h
theorem Rws.length(h:kI):ws.length=vs.length:=Du h.paired
theorem Rws.get{ws:aH}{vs:bD}{i:Nat}{w:W}(h:kI)(e:ws[i]?=sO w):∃v,C0/\iB:=by
 induction ws generalizing vs i with
 |nil=>cases e
 |cons x ws d=>
  show lN h v c a b;cases i with
  |zero=>cases e;exact⟨v,rfl,a⟩
  |succ i=>have z:=d b e;exact z
theorem Rws.append:∀{ws us:aH} {vs xs:bD},kI->Rws K R us xs->Rws K R (ws++us) (vs++xs):=by
 intro ws
 induction ws with
 |nil=>
  intro us vs xs h q;show lR h;exact q
 |cons w ws d=>
  intro us vs xs h q;show lN h v c a b;exact Rws.cons a (d b q)
theorem Rws.take:∀{ws:aH} {vs:bD} (n:Nat),kI->Rws K R (ws.take n) (vs.take n)
 |_,_,0,_=>by simp;show xI
 |[],vs,n+1,h=>by show lR h;simp;show xI
 |w::ws,vs,n+1,h=>by
  show lN h v c a b;exact Rws.cons a (Rws.take n b)
theorem Rws.drop:∀{ws:aH} {vs:bD} (n:Nat),kI->Rws K R (ws.drop n) (vs.drop n)
 |_,_,0,h=>cL h
 |[],vs,n+1,h=>by show lR h;simp;show xI
 |w::ws,vs,n+1,h=>by
  show lN h v c a b;exact Rws.drop n b
theorem Rws.set{ws:aH}{vs:bD}{w:W}{v:V}(n:Nat)(h:kI)(q:iB):Rws K R (ws.set n w) (vs.set n v):=by
 induction ws generalizing vs n with
 |nil=>show lR h;show xI
 |cons x ws d=>
  show lN h y c a b;cases n with
  |zero=>exact Rws.cons q b
  |succ n=>exact Rws.cons a (d n b)
#print "-"
noncomputable def Qj7:Nat->W->Option Tr
 |0,_=>nO
 |_+1,aL i=>sO (.i i)
 |_+1,.bl b=>sO (.i (tF b))
 |_+1,aJ x=>sO (.s x)
 |n+1,fA=>(ws.mapM (Qj7 n)).map .t
 |_+1,_=>nO
noncomputable def nrm:W->Option Tr
 |fA=>Qj7 8 wT
 |_=>nO
section
variable(K:Nd)
noncomputable def Ro(R:Rn):MO->zk5->Prop
 |eZ,o=>∃xs,o=sO iD/\gZ
 |.dic kvs,o=>∃a:gU V,o=sO (.dK a)/\Paired RQ kvs a
 |.dct kvs,o=>∃a:HM,o=sO (.dT a)/\Paired zn1 kvs a
 |.ins C fs,o=>∃(c:Addr) (b:pC),o=sO (.ins C c b)/\Paired RQ fs b
structure Rh(R:Rn)(h:MH)(H:Hp):Prop where
 len:R.N=h.length
 sub:∀a o,R.F a=sO o->PY
 sep:∀n,n<R.N->R.F kQ=nO
 inj:∀m n,m<R.N->n<R.N->R.ρ m=uS->m=n
 obj:∀n o,h[n]?=sO o->Ro K R o (H kQ)
 gsub:∀a o,R.G a=sO o->PY
 gsep:∀n,n<R.N->R.G kQ=nO
 gf:∀a o,R.G a=sO o->R.F a=nO
def Rst(R:Rn)(a:MSt)(σ:L2.St):Prop:=a.length=σ.length/\∀(i:Nat) (w:W),a[i]?=sO xM->∃v,σ[i]?=sO j1/\iB
#print "-"
section
variable{K:Nd}{R R':Rn}{h:MH}{H:Hp}{σi:MSt}{σ:L2.St}
theorem Ro.mono(e:jY)(q:CN R):CN R':=by
 cases o with
 |lst i=>show fH g d c q;exact⟨g,d,Rws.mono e i g c⟩
 |dic kvs=>show fH f d c q;exact⟨f,d,zZ0⟩
 |dct kvs=>show fH f d c q;exact⟨f,d,Paired.mapP c λa b z=>⟨Rw.mono e _ _ z.1,z.2.1,Rw.mono e _ _ z.2.2⟩⟩
 |ins C fs=>show hZ l j d c q;exact⟨l,j,d,zZ0⟩
theorem Ro.some(q:CN R):∃x,u=sO x:=by
 cases o with
 |lst e=>show fH d a b q;show kU a
 |dic kvs=>show fH c a b q;show kU a
 |dct kvs=>show fH c a b q;show kU a
 |ins C fs=>show hZ g f a b q;show kU a
theorem Rst.mono(e:jY)(q:Rst K R σi σ):Rst K R' σi σ:=⟨q.1,λi w h=>by
 obtain⟨v,b,a⟩:=q.2 i w h
 exact⟨v,b,Cn e a⟩⟩
theorem Rst.set(q:Rst K R σi σ)(r:iB):Rst K R (σi.set i xM) (σ.set i j1):=by
 refine⟨by rw[Dh,Dh];exact q.1,aP j u e⟩;rw[List.getElem?_set]at e ⊢
 by_cases a:i=j
 ·subst a;rw[nC]at e ⊢
  by_cases b:i<σi.length
  ·rw[bW b]at e;rw[if_pos (q.1▸b)];cases e;exact⟨v,rfl,r⟩
  ·rw[cR b]at e;cases e
 ·rw[cR a]at e ⊢;exact q.2 j u e
theorem Rh.there(q:eV)(c:n<R.N):∃o u,h[n]?=sO o/\H kQ=sO u:=by
 have a:n<h.length:=q.len▸c;obtain⟨u,b⟩:=(q.obj n h[n] (Nl a)).some;exact⟨h[n],u,Nl a,b⟩
theorem Rh.ne(q:eV)(b:mG)(c:n<R.N):uS≠p:=λe=>by
 obtain⟨o,u,_,a⟩:=q.there c;rw[e,b]at a;cases a
theorem Rh.fix(q:eV)(c:mG) :
  jk1/\Rh K { R with F:=upd R.F p o } h (lG p):=by
 have g:R.F p=nO:=by
  cases e:R.F p with
  |none=>rfl
  |some u=>have:=q.sub p u e;show oB c
 have x:jk1:=⟨Ny _,λ_ _=>rfl,λa u e=>by
  show zP6=sO u
  rw[QE (i5 z g e)];exact e,rfl⟩
 have f:jx7:=zY2 c
 refine⟨x,q.len,aP a u e,bQ n d,q.inj,aP n u e,aP a u e,q.gsep,aP a u e⟩
 rotate_right 2
 ·rw[QE (f a u e)];exact ze2
 ·show zP6=nO;rw[QE (f a u e)];exact q.gf a u e
 ·by_cases z:a=p
  ·subst z;have b:upd R.F a o a=sO u:=e;rw[Zq]at b ⊢;exact b
  ·have b:zP6=sO u:=e;rw[QE z]at b ⊢;exact q.sub a u b
 ·show upd R.F p o kQ=nO;rw[QE (q.ne c d)];exact q.sep n d
 ·have d:n<R.N:=zy2 q e
  show Ro K _ u (upd H p o kQ);rw[QE (q.ne c d)];exact(q.obj n u e).mono x
theorem Rh.tup(q:eV)(a:mG)(r:gZ) :
  ∃R',jY/\Rh K R' h (upd H p nF)/\Rw K R' wT (aC p):=by
 obtain⟨x,y⟩:=q.fix (o:=.tup xs) a;refine⟨_,x,y,?_⟩;unfold Rw;exact⟨p,xs,rfl,SqT.of Zq,zk4 x r⟩
theorem Rh.lstI(q:eV)(a:mG)(r:gZ) :
  ∃R',jY/\Rh K R' h (upd H p iD)/\Rw K R' kO (aC p):=by
 obtain⟨x,y⟩:=q.fix (o:=.lst xs) a;refine⟨_,x,y,?_⟩;unfold Rw;exact⟨p,xs,rfl,Zq,zk4 x r⟩
theorem Rh.new(q:eV)(g:mG)(r:∀R',jY->Ro K R' mo Do) :
  ∃R',jY/\Rh K R' (h++[mo]) (lG p)/\Rw K R' U' (aC p):=by
 let R':Rn:={ ρ:=λn=>if n=R.N then p else uS,N:=R.N+1,F:=R.F,G:=R.G }
 have d:∀n,n<R.N->R'.ρ n=uS:=λn b=>if_neg (NY b);have f:R'.ρ R.N=p:=nC;have x:jY:=⟨IA _,d,gL e,rfl⟩
 have j:jx7:=zY2 g
 have l:R.F p=nO:=by
  cases e:R.F p with
  |none=>rfl
  |some u=>have:=q.sub p u e;show oB g
 have below:∀n,n<R.N+1->n<R.N\/n=R.N:=λn b=>Nat.lt_or_eq_of_le (Ip b)
 have i:∀n,n<R.N+1->R.G (R'.ρ n)=nO:=λn b=>by
  show zJ6
  ·rw[d n b];exact q.gsep n b
  ·subst b;rw[f];cases e:R.G p with
   |none=>rfl
   |some u=>exact absurd rfl (j p u e)
 refine⟨R',x,⟨?_,aP a u e,bQ n b,λm n c b e=>?_,aP n u e,λa u e=>by rw[QE (j a u e)];exact ze2,i,q.gf⟩,?_⟩
 ·show R.N+1=_;rw[Nw,q.len];rfl
 ·have z:a≠p:=λz=>by have s:R.F a=sO u:=e;rw[z,l]at s;cases s
  rw[QE z];exact q.sub a u e
 ·show zJ6
  ·rw[d n b];exact q.sep n b
  ·subst b;rw[f];exact l
 ·rcases below m c with c|c<;>rcases below n b with b|b
  ·rw[d m c,d n b]at e;exact q.inj m n c b e
  ·subst b;rw[d m c,f]at e;exact absurd e (q.ne g c)
  ·subst c;rw[d n b,f]at e;exact absurd e.symm (q.ne g b)
  ·rw[c,b]
 ·have b:n<R.N+1:=by
   have:=cG e;rw[Nw,<-q.len]at this;exact this
  show zJ6
  ·rw[d n b,QE (q.ne g b)];rw[Ew js2]at e;exact(q.obj n u e).mono x
  ·subst b;rw[f,Zq];rw[Dv (by rw[q.len];exact Ny _),q.len,Nat.sub_self]at e;cases e;exact r R' x
 ·unfold Rw;refine⟨by rw[<-q.len];exact E9 _,?_⟩;rw[<-q.len,f]
theorem Rh.put(q:eV)(b:n<R.N)(r:Ro K R mo Do):Rh K R (h.set n mo) (upd H kQ o):=by
 refine⟨by rw[Dh];exact q.len,aP a u e,q.sep,q.inj,aP m u e,aP a u e,q.gsep,q.gf⟩
 rotate_right
 ·have z:a≠uS:=λz=>by rw[z,q.gsep n b]at e;cases e
  rw[QE z];exact ze2
 ·have z:a≠uS:=λz=>by rw[z,q.sep n b]at e;cases e
  rw[QE z];exact q.sub a u e
 ·by_cases z:n=m
  ·subst z;rw[Zq];rw[EA js2]at e;cases e;exact r
  ·have c:m<R.N:=by
    have:=cG e;rw[Dh,<-q.len]at this;exact this
   rw[DD z]at e;rw[QE (λw=>z (q.inj m n c b w).symm)];exact q.obj m u e
theorem Rh.tupAt(q:eV)(r:Rw K R wT v):∃a xs,v=aG a/\SqT K H a xs/\gZ:=by
 show fG r;show zJ5;exact⟨a,xs,d,Jv q.sub c,b⟩
theorem Rh.lstAt(q:eV)(r:Rw K R kO v):∃a xs,v=aG a/\H a=sO iD/\gZ:=by
 show fG r;show zJ5;exact⟨a,xs,d,q.sub a _ c,b⟩
theorem Rh.frzAt(q:eV)(r:Rw K R (.frz ws) v):∃a xs,v=aG a/\Ps H/\gZ:=by
 show fG r;show zJ5;exact⟨a,xs,d,ZA q.sub c,b⟩
noncomputable def lsW(h:MH):W->ze9 W
 |eZ=>sO ws
 |oP=>sO ws
 |aG n=>match h[n]? with|some kO=>sO ws|_=>nO
 |_=>nO
noncomputable def loW(h:MH):W->ze9 W
 |eZ=>sO ws
 |aG n=>match h[n]? with|some kO=>sO ws|_=>nO
 |_=>nO
theorem Rh.loAt(q:eV)(r:iB)(e:loW h w=sO ws):∃a xs,v=aG a/\H a=sO iD/\gZ:=by
 cases w with
 |lst b=>cases e;exact q.lstAt r
 |ref n=>
  simp only[loW]at e;split at e
  ·show sB b c e;show fG r;obtain⟨xs,f,d⟩:=mB q c;exact⟨_,xs,r.2,f,d⟩
  ·cases e
 |_=>cases e
theorem Rh.lsAt(q:eV)(r:iB)(e:lsW h w=sO ws):∃a xs,v=aG a/\Ps H/\gZ:=by
 cases w with
 |lst b=>cases e;obtain⟨a,xs,j,i,g⟩:=q.lstAt r;exact⟨a,xs,j,kB i,g⟩
 |frz b=>cases e;exact q.frzAt r
 |ref n=>
  simp only[lsW]at e;split at e
  ·show sB b c e;show fG r;obtain⟨xs,f,d⟩:=mB q c;exact⟨_,xs,r.2,kB f,d⟩
  ·cases e
 |_=>cases e
theorem Rh.refAt(q:eV)(r:Rw K R (aC n) v)(e:h[n]?=sO kO) :
  n<R.N/\v=.ref kQ/\∃xs,H kQ=sO iD/\gZ:=by
 show fG r;exact⟨r.1,r.2,mB q e⟩
#print "-"
theorem Rw.non_eq{K:Nd}(r:Rw K R .non v):v=.non:=by show fG r;exact r
theorem Rw.bl_eq{K:Nd}(r:Rw K R pP v):v=.bl b:=by show fG r;exact r
theorem Rw.int_eq{K:Nd}(r:Rw K R d3 v):v=aL i:=by show fG r;exact r
theorem Rw.str_eq{K:Nd}(r:Rw K R cM v):v=aJ x:=by show fG r;exact r
theorem Rw.ty_eq{K:Nd}(r:Rw K R (.ty n) v):v=.ty n:=by show fG r;exact r
theorem Rw.ty{K:Nd}(n:String):Rw K R (.ty n) (.ty n):=Bj
theorem Rw.non{K:Nd}:Rw K R .non .non:=Bj
theorem Rw.bl{K:Nd}(b:Bool):Rw K R pP pP:=Bj
theorem Rw.int{K:Nd}(i:Int):Rw K R d3 d3:=Bj
theorem Rw.str{K:Nd}(x:Str):Rw K R cM cM:=Bj
#print "-Mi"
namespace Mi
open L2
noncomputable abbrev ME:=MSt->MH->bJ
noncomputable abbrev MT:=MSt->MH->Bg
noncomputable abbrev MA:=MSt->MH->Option (aH×MH)
inductive MF where
 |nx (σ:MSt) (h:MH)|rt (w:W) (h:MH)|bk (σ:MSt) (h:MH)|ct (σ:MSt) (h:MH)
noncomputable abbrev SM:=MSt->MH->rG
noncomputable abbrev FM:=aH->MH->bJ
section
variable(K:Nd)
def After(R:Rn)(w:W)(h':MH)(Q:VK):Prop:=∀a b v,kW a->Rh K a h' b->nU a w->Q v b
noncomputable def tI(m:ME):TE:=λc H Q=>∃R a h w b,eV/\iR R a c/\m a h=cP w b/\u5 R b
noncomputable def tIT(m:MT):TT:=λf H Q=>∃R a h b c,eV/\iR R a f/\m a h=cP b c/\∀d e,kW d->Rh K d c e->Q b e
noncomputable def tIA(m:MA):TA:=λg H Q=>∃R a h c e,eV/\iR R a g/\m a h=cP c e/\∀b f d,kW b->Rh K b e f->Rws K b c d->Q d f
noncomputable def Ends(R:Rn)(D:L2.Ends):MF->Prop
 |.nx a h=>∀R' b σ,jY->Ac b->iR R' a σ->D.nx σ b
 |.bk a h=>∀R' b σ,jY->Ac b->iR R' a σ->D.bk σ b
 |.ct a h=>∀R' b σ,jY->Ac b->iR R' a σ->D.ct σ b
 |.rt w h=>After K R w h D.rt
noncomputable def tS(m:SM):TS:=λD b H=>∃R a h r,eV/\iR R a b/\m a h=sO r/\Cq R
noncomputable def spM(n:Nat)(m:FM):Sp:=λc H Q _=>∃R a h w b,a.length=n/\eV/\Rws K R a c/\m a h=cP w b/\u5 R b
#print "-"
def PM(X:Cx)(e:Expr)(m:ME):Prop:=PE X e (tI X.K m)
def PMT(X:Cx)(e:Expr)(m:MT):Prop:=PT X e (tIT X.K m)
def PMA(X:Cx)(es:eE)(m:MA):Prop:=PA X es (tIA X.K m)
def PMS(X:Cx)(st:Stmt)(m:SM):Prop:=PS X st (tS X.K m)
def QgJ(X:Cx)(st:jX)(m:SM):Prop:=PSs X st (tS X.K m)
section
variable{K:Nd}{R R1 R2:Rn}
theorem After.ext(a:u5 R h')(x:kW R1):u5 R1 h':=λb c v e=>a b c v (eI x e)
theorem Ends.ext(a:Cq R)(x:kW R1):Cq R1:=by
 cases r with
 |nx d h=>exact λb c v e=>a b c v (eI x e)
 |bk d h=>exact λb c v e=>a b c v (eI x e)
 |ct d h=>exact λb c v e=>a b c v (eI x e)
 |rt w h=>exact After.ext a x
#print "-"
theorem ZZ(h:PE X e t)(i:S1):PE X e t':=λa s σ H Q I q=>h a s σ H Q I zN
theorem Qbd(h:PT X e t)(i:S1):PT X e t':=λa s σ H Q I q=>h a s σ H Q I zN
theorem Qj4(h:PW X e t)(i:S1):PW X e t':=λb a s σ H Q I q=>h b a s σ H Q I zN
theorem Qj6(h:Pu)(i:S1):PA X es t':=λpos a s σ H Q I q=>h pos a s σ H Q I zN
theorem Xn{st:Stmt}(h:zk6)(i:jn4):PS X st t':=λa s σ H D I q=>h a s σ H D I zN
theorem GX{st:jX}(h:PSs X st t)(i:jn4):PSs X st t':=λa s σ H D I q=>h a s σ H D I zN
noncomputable def Qe(i:Nat):ME:=λa h=>match a[i]? with|some xM=>cP w h|_=>nO
noncomputable def mC(w:W):ME:=λ_ h=>cP w h
section
variable{X:Cx}
theorem Qc(i:Nat)(hN:kJ:=by rfl)(d:Be:=by first|exact Or.inl rfl|exact Or.inr dA|exact Or.inr zd7)(hd:gB:=by decide)
  (a:zs2:=by decide):PM X mX D':=ZZ (QjS hN d hd a) <|by
 rintro l H Q ⟨R,b,h,w,n,c,st,e,k⟩
 unfold Qe at e;split at e
 ·show sB m j e;obtain⟨v,g,f⟩:=st.2 i _ j;exact⟨v,g,k R H v c9 c f⟩
 ·cases e
theorem QaI(r:∀R,gX w v)(q:tI X.K xN σ H Q):tC v σ H Q:=by
 obtain⟨R,a,h,c,d,b,st,e,k⟩:=q;cases e;exact k R H v c9 b (r R)
theorem Qf{i j pos}:PM X (.Constant d3 j pos) (mC d3):=ZZ Qpg λ_ _ _=>QaI λ_=>Rw.int _
theorem Xy{b j pos}:PM X jm7 (mC pP):=ZZ QpU λ_ _ _=>QaI λ_=>Rw.bl _
theorem YW{j pos}:PM X jt9 nG:=ZZ QnT λ_ _ _=>QaI λ_=>Rw.non
theorem QkJ(d:jI)(c:mH=nO)(a:qS=sO u)(r:dJ v)(rw:∀R,gX w v)(b:qR:=by decide)(hd:gB:=by decide):PM X mX xN:=
 ZZ (QgI d c a r b hd) λ_ _ _=>QaI rw
theorem Qj{x j pos}:PM X (.Constant cM j pos) (mC cM):=ZZ QgX λ_ _ _=>QaI λ_=>Rw.str _
theorem QkW(b:jI)(a:mH=sO u)(r:dJ v)(rw:∀R,gX w v)(hd:gB:=by decide):PM X mX xN:=
 ZZ (Ki b a r hd) λ_ _ _=>QaI rw
#print "-"
noncomputable def Qi(f:W->W->MH->bJ)(c b:ME):ME:=λa h=>(c a h).bind λp=>(b a p.2).bind λq=>zc7
def F1(K:Nd)(f:W->MH->bJ)(x:V)(H:Hp)(Q:VK):Prop:=∃R h a w b,eV/\Rw K R a x/\f a h=cP w b/\u5 R b
def F2(K:Nd)(f:W->W->MH->bJ)(x y:V)(H:Hp)(Q:VK):Prop:=∃R h a b w c,eV/\Rw K R a x/\Rw K R b y/\f a b h=cP w c/\u5 R c
def Fs(K:Nd)(f:aH->MH->bJ)(xs:bD)(H:Hp)(Q:VK):Prop:=∃R h a w b,eV/\Rws K R a xs/\f a h=cP w b/\u5 R b
noncomputable def mUn(f:W->MH->bJ)(b:ME):ME:=jh5
noncomputable def mFn(f:aH->MH->bJ)(b:MA):ME:=jh5
section
variable{K:Nd}{σ:L2.St}{H:Hp}{Q:VK}
theorem un1(q:tI K (mUn f m) σ H Q):tI K m σ H λx g=>F1 K f x g Q:=by
 obtain⟨R,b,h,w,n,l,st,e,k⟩:=q;show cX a d o p e;exact⟨R,b,h,a,d,l,st,o,λR1 g x i c j=>⟨R1,d,a,w,n,c,j,p,k.ext i⟩⟩
theorem Qki(q:tI K (Qi f u t) σ H Q):tI K u σ H λx o=>tI K t σ o λy n=>F2 K f x y n Q:=by
 obtain⟨R,c,h,w,v,s,st,e,k⟩:=q;show cX a m A C e;show cX b l z B C
 exact⟨R,c,h,a,m,s,st,A,λR1 o x j g r=>⟨R1,c,m,b,l,g,pT j,z,λR2 n y i d p=>
  ⟨R2,l,a,b,w,v,d,Cn i r,p,B,k.ext (eI j i)⟩⟩⟩
theorem Qdp(q:tI K (mFn f m) σ H Q):tIA K m σ H λxs g=>Fs K f xs g Q:=by
 obtain⟨R,b,h,w,n,l,st,e,k⟩:=q;show cX a d o p e;exact⟨R,b,h,a,d,l,st,o,λR1 g x i c j=>⟨R1,d,a,w,n,c,j,p,k.ext i⟩⟩
#print "-"
noncomputable def VF:Expr->Bool
 |.Starred ..=>true
 |_=>false
noncomputable def noStar(es:eE):Bool:=es.all λe=>!VF e
theorem Zg(h:kN):starEach eO env=(false,eval e env)::starEach es env:=by
 cases e<;>first|rfl|cases h
theorem VR(h:w4):(backTo pos (starEach es env)).any (·.1)=false:=by
 induction es with
 |nil=>rfl
 |cons e es a=>
  unfold noStar at h a;rw[ID,NL]at h;have b:kN:=by simpa using h.1
  rw[Zg b];have:=a h.2;unfold backTo at this ⊢;rw[NA,Dk,this];rfl
theorem QhG(h:w4):(backTo pos (starEach es env)).all ze8=true:=by
 have:=VR (env:=env) (pos:=pos) h;rw[List.all_eq_not_any_not];simp only[Bool.not_not];show mD
noncomputable def Ql:MA:=λ_ h=>sO ([],h)
noncomputable def Qb(c:ME)(b:MA):MA:=λa h=>(c a h).bind λp=>(b a p.2).bind λq=>sO (p.1::q.1,q.2)
section
variable{X:Cx}{e:Expr}{es:eE}{m:ME}{ms:MA}{pos:Pos}
theorem Qd:PMA X [] Ql:=Qj6 U1 <|by
 rintro c H Q ⟨R,a,h,d,f,b,st,e,k⟩
 cases e;exact k R H [] c9 b Rws.nil
theorem Qa(u:Af)(t:MU)(s:kN:=by rfl):PMA X eO Pk:=
 Qj6 (Ve u t (Zg s)) λC H Q l=>by
  obtain⟨R,c,h,D,E,r,st,e,k⟩:=l;show cX a j y A e;show cX b v w z A;cases z
  exact⟨R,c,h,a,j,r,st,y,λR1 F x i f p=>⟨R1,c,j,b,v,f,pT i,w,λR2 B n g d o=>
   k R2 B (x::n) (eI i g) d (Rws.cons (A1 g p) o)⟩⟩
noncomputable def Xf(ws:aH)(h:MH):bJ:=if vL then sO (fA,h)else nO
noncomputable def JB(ws:aH)(h:MH):bJ:=if vL then sO (eZ,h)else nO
noncomputable def WE(ws:aH)(h:MH):bJ:=if vL then sO (oG,h++[eZ])else nO
theorem Zw{d}(h:MU):PM X (ze7 d) (mFn Xf ms):=ZZ (Qjl h) λC H Q q=>by
 obtain⟨R,c,z,o,y,t,st,e,k⟩:=Qdp q;refine⟨R,c,z,o,y,t,st,e,fB R1 B r d j s⟩;obtain⟨R2,E,n,w,D,i,a,b,u⟩:=k R1 B r d j s;unfold Xf at b;split at b
 ·show eF x b;refine⟨oX a x,bQ p v⟩;obtain⟨A,l,g,f⟩:=i.tup v a;exact u A _ _ l g f
 ·cases b
theorem QY(h:MU):PM X zJ2 ML:=ZZ (Qj3 h) λC H Q q=>by
 obtain⟨R,c,z,o,y,t,st,e,k⟩:=Qdp q;refine⟨R,c,z,o,y,t,st,e,fB R1 B r l i s⟩;obtain⟨R2,E,n,w,D,g,a,b,u⟩:=k R1 B r l i s;unfold JB at b;split at b
 ·show eF x b;refine⟨oX a x,bQ p v⟩;obtain⟨A,j,f,d⟩:=g.lstI v a;exact u A _ _ j f d
 ·cases b
theorem VG(h:MU):PM X zJ2 (mFn WE ms):=ZZ (Qj3 h) λE H Q q=>by
 obtain⟨R,c,B,t,A,v,st,e,k⟩:=Qdp q;refine⟨R,c,B,t,A,v,st,e,fB R1 D f r l u⟩;obtain⟨R2,I,d,w,G,j,a,b,x⟩:=k R1 D f r l u;unfold WE at b;split at b
 ·show eF z b;refine⟨oX a z,bQ p y⟩;obtain⟨C,n,i,g⟩:=j.new (mo:=.lst d) (o:=.lst f) y λJ s=>⟨f,rfl,zk4 s a⟩
  exact x C _ _ n i g
 ·cases b
#print "-"
def OpM(K:Nd)(r:R2)(f:W->W->MH->bJ):Prop:=∀x y H Q,F2 K f x y H Q->xK r
def QlS(K:Nd)(r:bD->fR)(f:aH->MH->bJ):Prop:=∀a H Q,Fs K f a H Q->r a H Q
section
variable{X:Cx}{a b c:Expr}{ma mb mc:ME}{pos:Pos}
theorem Jf{K:Nd}(h:tI K m σ H Q)(i:∀v H,Q v H->Q' v H):tI K m σ H Q':=by
 obtain⟨R,d,h,w,g,f,st,e,k⟩:=h;exact⟨R,d,h,w,g,f,st,e,λj l v a b c=>i _ _ (k j l v a b c)⟩
theorem Gk{K:Nd}(h:tIA K m σ H Q)(i:∀v H,Q v H->Q' v H):tIA K m σ H Q':=by
 obtain⟨R,d,h,w,g,f,st,e,k⟩:=h;exact⟨R,d,h,w,g,f,st,e,λj l v a b c=>i _ _ (k j l v a b c)⟩
theorem Qs(g:B2)(h:wK)(j:lD)(i:wV):PM X (.BinOp a op b pos) zP7:=
 ZZ (Qqq g j i) λ_ _ _ q=>Jf CL (SH e d h)
theorem Xo(g:vH)(i:wK)(l:lD)(j:wV)(h:Si:=by rfl):PM X Sc zP7:=
 ZZ (Qkv g l j h) λ_ _ _ q=>Jf CL (SH e d i)
noncomputable def QB(m:ME):MT:=λd h=>(m d h).bind λp=>match p.1 with|.bl b=>sO (b,p.2)|_=>nO
theorem GS{K:Nd}(q:tIT K (QB m) σ H Q):tI K m σ H λx i=>∃k,x=.bl k/\Q k i:=by
 obtain⟨R,d,h,b,r,l,st,e,k⟩:=q;show cX w p n g e;cases w<;>simp only at g<;>first|(cases g;exact⟨R,d,h,_,_,l,st,n,λo i v x f j=>⟨_,j.bl_eq,k o i x f⟩⟩)|(cases g)
theorem Qr(g:vH)(i:wK)(l:lD)(j:wV)(h:Si:=by rfl):PMT X Sc (QB zP7):=
 Qbd (Qff g l j h) λ_ _ _ q=>Jf (Qki (GS q)) (SH e d i)
noncomputable def XJ(f e:W->W->MH->bJ)(ma mb mc:ME):ME:=λd h=>(ma d h).bind λp=>(mb d p.2).bind λq=>(f p.1 q.1 q.2).bind λz=>match z.1 with
 |dM=>(mc d z.2).bind λy=>e q.1 y.1 y.2
 |iN=>sO (iN,z.2)
 |_=>nO
theorem Qcs{K:Nd}(N:OpM K r f)(u:OpM K M P)(q:tI K (XJ f P ma mb mc) σ H Q):Qgg r M (tI K ma) (tI K mb) (tI K mc) σ H Q:=by
 obtain⟨R,g,h,w,O,L,st,e,k⟩:=q;show cX a F Y e2 e;show cX b E U e3 e2;show cX z D S d e3;refine⟨R,g,h,a,F,L,st,Y,λR1 H1 x m s I=>⟨R1,g,F,b,E,s,pT m,U,fB R2 H2 y l p B⟩⟩;refine N _ _ _ _ ⟨R2,E,a,b,z,D,p,Cn l I,B,S,fB G H3 v j i J⟩;cases z with
 | bl t=>
  refine⟨t,J.bl_eq,?_⟩;cases t with
  |true=>
   show cX c C T Z d;refine Qjq ⟨G,g,D,c,C,i,st.mono (gD m l j),T,fB R4 H4 y' A o n⟩;exact u _ _ _ _ ⟨R4,C,b,c,w,O,o,Rw.mono (eI j A) _ _ B,n,Z,k.ext (m.trans (gD l j A))⟩
  |false=>
   cases d;exact QjO (k G H3 _ (gD m l j) i jC)
 |non=>cases d
 |int _=>cases d
 |str _=>cases d
 |tup _=>cases d
 |lst _=>cases d
 |frz _=>cases d
 |ref _=>cases d
 |ty _=>cases d
theorem QhF(i:vH)(l:wK)(e:za5 d h)(g:OpM X.K h p)(o:lD)(n:wV)(m:PM X c mc)
  (j:T9 d=false:=by show M0):PM X (Sn d) (XJ f p ma mb mc):=ZZ (QiQ i e o n m j) λ_ _ _ q=>Qcs l g q
theorem Qbw(i:vH)(l:wK)(e:za5 d h)(g:OpM X.K h p)(o:lD)(n:wV)(m:PM X c mc)
  (j:T9 d=false:=by show M0):PMT X (Sn d) (QB (XJ f p ma mb mc)):=Qbd (Qiq i e o n m j) λ_ _ _ q=>Qcs l g (GS q)
noncomputable def QcR(ma mb:ME):ME:=λd h=>(ma d h).bind λp=>match p.1 with|dM=>mb d p.2|iN=>sO (iN,p.2)|_=>nO
noncomputable def Qp4(ma:ME):ME:=λd h=>(ma d h).bind λp=>match p.1 with|.bl b=>sO (.bl (!b),p.2)|_=>nO
noncomputable def KG(ma mb:MT):MT:=λd h=>(ma d h).bind λp=>match p.1 with|true=>mb d p.2|false=>sO (false,p.2)
noncomputable def UW(ma mb:MT):MT:=λd h=>(ma d h).bind λp=>match p.1 with|true=>sO (true,p.2)|false=>mb d p.2
noncomputable def VN(ma:MT):MT:=λd h=>(ma d h).bind λp=>sO (!p.1,p.2)
noncomputable def mIf(t:MT)(ma mb:ME):ME:=λd h=>(t d h).bind λp=>match p.1 with|true=>ma d p.2|false=>mb d p.2
variable{rest:eE}{ta tb:MT}
theorem Wl{op}(h:lD):PM X (.BoolOp op [a] pos) ma:=Qpa h
theorem K7(o:lD)(n:PM X S4 mb):PM X RV (QcR ma mb):=ZZ (QnR o n) <|by
 rintro u H Q ⟨R,f,h,w,p,m,st,e,k⟩
 show cX a j r d e;refine⟨R,f,h,a,j,m,st,r,fB R1 s x i g l⟩;cases a with
 |bl t=>
  refine⟨t,l.bl_eq,?_⟩;cases t with
  |true=>exact Qjq ⟨R1,f,j,w,p,g,pT i,d,k.ext i⟩
  |false=>cases d;exact QjO (k R1 s _ i g jC)
 |non=>cases d
 |int _=>cases d
 |str _=>cases d
 |tup _=>cases d
 |lst _=>cases d
 |frz _=>cases d
 |ref _=>cases d
 |ty _=>cases d
theorem QoM(m:lD):PM X SD (Qp4 ma):=ZZ (QnC m) <|by
 rintro r H Q ⟨R,f,h,w,s,l,st,e,k⟩
 show cX a n o d e;refine⟨R,f,h,a,n,l,st,o,fB R1 p x i g j⟩;cases a with
 |bl t=>cases d;exact⟨t,j.bl_eq,k R1 p _ i g jC⟩
 |non=>cases d
 |int _=>cases d
 |str _=>cases d
 |tup _=>cases d
 |lst _=>cases d
 |frz _=>cases d
 |ref _=>cases d
 |ty _=>cases d
def PMW(X:Cx)(e:Expr)(m:MT):Prop:=PW X e (tIT X.K m)
theorem PMW.pt(h:PMW X e m):PMT X e m:=PW.pt h
theorem Qk7{K:Nd}(q:tIT K (KG ta tb) σ H Q):Qsn (tIT K ta) (tIT K tb) σ H Q:=by
 obtain⟨R,d,h,w,n,m,st,e,k⟩:=q;show cX a i o j e;refine⟨R,d,h,a,i,m,st,o,fC R1 r g f⟩;cases a with
 |true=>exact Qjq ⟨R1,d,i,w,n,f,pT g,j,λR2 p l=>k R2 p (eI g l)⟩
 |false=>cases j;exact QjO (k R1 r g f)
theorem Qnr{K:Nd}(q:tIT K (UW ta tb) σ H Q):tOr (tIT K ta) (tIT K tb) σ H Q:=by
 obtain⟨R,d,h,w,n,m,st,e,k⟩:=q;show cX a i o j e;refine⟨R,d,h,a,i,m,st,o,fC R1 r g f⟩;cases a with
 |true=>cases j;exact Qjq (k R1 r g f)
 |false=>exact QjO ⟨R1,d,i,w,n,f,pT g,j,λR2 p l=>k R2 p (eI g l)⟩
theorem VT(d:Pc):PMW X jx3 ta:=QfX d
theorem Vr(d:Pc):PMW X jA2 ta:=Qnu d
theorem VI(e:Pc)(d:PMW X S4 tb):PMW X RV (KG ta tb):=Qj4 (QfR e d) λ_ _ _=>Qk7
theorem XF(e:Pc)(d:PMW X jm8 tb):PMW X jj2 (UW ta tb):=Qj4 (Qp9 e d) λ_ _ _=>Qnr
theorem Z6(j:Pc):PMT X SD (VN ta):=Qbd (Qjg j) <|by
 rintro p H Q ⟨R,d,h,w,r,i,st,e,k⟩
 show cX a l m n e;cases n;exact⟨R,d,h,a,l,i,st,m,λR1 o g f=>k R1 o g f⟩
theorem QfW(n:PMT X c ta)(p:lD)(o:wV):PM X (.IfExp c a b pos) (mIf ta ma mb):=ZZ (Qh6 n p o) <|by
 rintro s H Q ⟨R,d,h,w,j,m,st,e,k⟩
 show cX t i r l e;refine⟨R,d,h,t,i,m,st,r,fC R1 u g f⟩;cases t with
 |true=>exact Qjq ⟨R1,d,i,w,j,f,pT g,l,k.ext g⟩
 |false=>exact QjO ⟨R1,d,i,w,j,f,pT g,l,k.ext g⟩
noncomputable def QjL(h:MH):W->Option Bool
 |.non=>sO false
 |.bl b=>sO b
 |aL i=>sO (i != 0)
 |aJ x=>if lT then sO (p9 != 0)else nO
 |fA=>sO zC
 |eZ=>sO zC
 |oP=>sO zC
 |aG n=>match h[n]? with|some kO=>sO zC|yW=>sO (!kvs.isEmpty)|_=>nO
 |.ty _=>nO
noncomputable def KW(m:ME):MT:=λd h=>(m d h).bind λp=>(QjL p.2 p.1).map λb=>(b,p.2)
theorem Rws.isEmpty{K:Nd}(r:kI):ws.isEmpty=vs.isEmpty:=by
 have:=r.length;cases ws<;>cases vs<;>simp at this ⊢
theorem Qpi{K:Nd}{v:V}{b:Bool}(j:eV)(r:iB)(e:QjL h w=sO b):Qp0 K v H b:=by
 cases w with
 |non=>rw[r.non_eq];cases e;rfl
 |bl b=>rw[r.bl_eq];cases e;rfl
 |int i=>rw[r.int_eq];cases e;rfl
 |str x=>
  rw[r.str_eq];simp only[QjL]at e;split at e
  ·show eF p e;exact⟨p,rfl⟩
  ·cases e
 |tup l=>
  obtain⟨a,g,rfl,f,d⟩:=j.tupAt r;cases e;exact .inr (.inl ⟨g,f,TU⟩)
 |lst l=>
  obtain⟨a,g,rfl,f,d⟩:=j.lstAt r;cases e;exact .inl ⟨g,kB f,TU⟩
 |frz l=>
  obtain⟨a,g,rfl,f,d⟩:=j.frzAt r;cases e;exact .inl ⟨g,f,TU⟩
 |ref n=>
  simp only[QjL]at e;split at e
  ·show sB l m e;obtain⟨_,rfl,g,f,d⟩:=j.refAt r m;exact .inl ⟨g,kB f,TU⟩
  ·rename_i kvs m;cases e;show fG r;obtain⟨o,f,d⟩:=mB j m;rw[r.2];refine .inr (.inr ⟨o,f,?_⟩);have:=Du d;cases kvs<;>cases o<;>simp at this ⊢
  ·cases e
 |ty _=>cases e
theorem ZJ(n:lD)(m:∀whole,zG9 a=(zo0 a):=by intro _;rfl):PMT X a (KW ma):=
 Qbd (QhJ n m) λu H Q g=>by
  obtain⟨R,f,h,w,z,l,st,e,k⟩:=g;show cX a y p s e;show dI b o r s;cases r;exact⟨R,f,h,a,_,l,st,p,λR1 t x i d j=>⟨_,Qpi d j o,k R1 t i d⟩⟩
#print "-"
noncomputable def Qaz:Expr->Bool
 |.ListComp ..=>true
 |.SetComp ..=>true
 |.DictComp ..=>true
 |_=>false
theorem WJ(h:MV):swapsWith e t l env=oM:=by
 cases e<;>first|rfl|cases h
noncomputable def Q7:SM:=λa h=>m8 a h
noncomputable def QG(a b:SM):SM:=λd h=>(a d h).bind λr=>match r with|.nx c e=>b c e|r=>sO r
noncomputable def ZU(m:ME):SM:=λa h=>(m a h).map λp=>.rt p.1 p.2
noncomputable def Ju(t:MT)(a b:SM):SM:=λc h=>(t c h).bind λp=>match p.1 with|true=>a c p.2|false=>b c p.2
noncomputable def VQ(m:ME):SM:=λa h=>(m a h).map λp=>.nx a p.2
noncomputable def Q6(i:Nat)(m:ME):SM:=λa h=>(m a h).map λp=>SR a p
noncomputable def Qjn(i:Nat)(f:W->W->MH->bJ)(m:ME):SM:=λa h=>match a[i]? with
 |some (sO x)=>(m a h).bind λp=>(f x p.1 p.2).map λq=>SR a q
 |_=>nO
section
variable{X:Cx}{st:Stmt}{rest:jX}{a b:SM}{e:Expr}{m:ME}{pos:Pos}
theorem QA:QgJ X [] Q7:=GX Qft <|by
 rintro D d H ⟨R,c,h,r,f,s,e,k⟩
 cases e;exact k R H d c9 f s
theorem Qm0{K:Nd}(q:tS K (QG a b) D σ H):QqC (tS K a) (tS K b) D σ H:=by
 obtain⟨R,g,h,r,p,s,e,k⟩:=q;show fQ j t f e;refine⟨R,g,h,j,p,s,t,?_⟩;cases j with
 |nx c d=>exact λR1 u l n i o=>⟨R1,c,d,r,i,o,f,Ends.ext k n⟩
 |rt w d=>show AH f
 |bk c d=>show AH f
 |ct c d=>show AH f
theorem Qg(h1:PMS X st a)(c:QgJ X rest b):QgJ X (st::rest) (QG a b):=GX (WO h1 c) λ_ _ _=>Qm0
theorem Qk(h1:PMS X st a):QgJ X [st] a:=Uj h1
theorem Q1(l:Af)(j:MV:=by rfl):PMS X (.Expr e pos) (VQ m):=Xn (QgA l (WJ j)) <|by
 rintro D g H ⟨R,c,h,r,i,s,e,k⟩
 show sR w n p o e;exact⟨R,c,h,w,n,i,s,p,λR1 t v f d _=>k R1 t g f d (s.mono f)⟩
theorem Qp(f:Af):PMS X (.Return (sO e) pos) (ZU m):=Xn (Qnd f) <|by
 rintro D l H ⟨R,c,h,r,d,s,e,k⟩
 show sR w g j i e;exact⟨R,c,h,w,g,d,s,j,k⟩
theorem QK(p:PMT X c t)(v:QgJ X n a)(u:QgJ X l b):PMS X (.If c n l pos) (Ju t a b):=Xn (Qk4 p v u) <|by
 rintro D x H ⟨R,d,h,r,o,s,e,k⟩
 show cX z i w j e;refine⟨R,d,h,z,i,o,s,w,fC R1 y g f⟩;cases z with
 |true=>exact Qjq ⟨R1,d,i,r,f,xV g,j,Ends.ext k g⟩
 |false=>exact QjO ⟨R1,d,i,r,f,xV g,j,Ends.ext k g⟩
theorem Qm(hN:X.N.Nodup)(hi:kJ)(n:n')(t:Af)(o:MV:=by rfl)(p:nW:=by show uZ) :
  PMS X (.Assign [.Name x g] e pos) (Q6 i m):=Xn (Qf1 hN hi n t (WJ o) p) <|by
 rintro D B H ⟨R,c,h,r,l,s,e,k⟩
 show sR w u z y e;exact⟨R,c,h,w,u,l,s,z,λR1 A v f d j=>k R1 A _ f d ((s.mono f).set j)⟩
theorem Qny(c:OpR X (inplaceOp op) r):PIp X op r:=c
theorem Qao(hN:X.N.Nodup)(hi:kJ)(I:n')(J:OpR X (inplaceOp op) r)(L:wK)(M:Af)
  (p:nW:=by show uZ):PMS X (.AugAssign (sA u) op e pos) (Qjn i f m):=
 Xn (Qpb hN hi I M (Qny J) p) λD Y H B=>by
  obtain⟨R,c,h,r,G,s,e,k⟩:=B;unfold Qjn at e;split at e
  ·rename_i C n;show cX w A T S e;show sR z O Q P S;obtain⟨v0,o,g⟩:=s.2 i _ n;refine⟨v0,o,R,c,h,w,A,G,s,T,fB R1 Z v d l F⟩;exact L _ _ _ _ ⟨R1,A,C,w,z,O,l,Cn d g,F,Q,λR2 U y t j E=>k R2 U _ (eI d t) j ((s.mono (eI d t)).set E)⟩
  ·cases e
#print "-"
noncomputable def Qme(r:rG):bJ:=match r with|some (.rt w h)=>cP w h|some (.nx _ h)=>zg1|_=>nO
noncomputable def QN(more:Nat)(m:SM):FM:=λa h=>Qme jb9
theorem Rst.start{K:Nd}(r:kI)(k:Nat)(d:N.length=ws.length+k):Rst K R (jx8 k) BL:=by
 show g6 c r;unfold L2.start;refine⟨by simp[d,c],aP i w e⟩
 by_cases b:i<ws.length
 ·rw[Ew (cD b)]at e;rw[Ew (by simpa[<-c]using b)];rw[Nx]at e ⊢;show dI j a h e;cases h;show fY v g f r a;exact⟨v,u8 g,f⟩
 ·rw[Dv (cD b)]at e;rw[LP]at e;split at e<;>cases e
section
variable{P:Program}{w:World}{K:Nd}{mg:c'}{base:Heap}
theorem QqX{st:Stmt}{N ps:aD}{m:SM}(F:zP5 c)(S:FnScope N ps jZ)(hN:zw2)
  (g:∀(b:Value) (A:Around) (a:fT) (s:Shared) (H:Hp) (E:XK),zo1 c b->QgJ (Qg8 CX0 P w K mg base N c jZ f b A a s H E).nox pQ m) :
  FnOk P w K mg base CX0 (k+1) f fd ps (spM K ps.length (QN more m)):=by
 refine F.ok S (λv H Q E q=>?_) (λb A a s H v Q E y q=>?_)
 ·obtain⟨R,u,h,w,B,l,j,d,_⟩:=q;show sK d;exact l
 ·refine⟨_,g b A a s H E y,?_⟩;obtain⟨R,u,h,w,B,l,j,d,e,o⟩:=q;have st:=ju3 d l;unfold QN Qme at e;split at e
  ·show C' D z n;exact⟨R,_,h,_,j,st,n,o⟩
  ·show C' p z n;exact⟨R,_,h,_,j,st,n,λR1 C r t i _=>o R1 C .non t i Rw.non⟩
  ·cases e
#print "-"
section
variable{X:Cx}{CX:CXT}{k:Nat}{f:Addr}{fd:FuncData}{ps:aD}{g:FM}{E:XK}{x:Str}{p pos:Pos}{e:Expr}{es:eE}{ms:MA}
noncomputable def QD(n:Nat)(g:FM)(ms:MA):ME:=mFn (λa h=>if a.length=n then g a h else nO) ms
theorem QlQ{K:Nd}(q:tI K (QD n g ms) σ H Q):Qm4 (spM K n g) [] E (tIA K ms) σ H Q:=by
 refine Gk (Qdp q) (aP l m b);obtain⟨R,h,c,w,j,d,a,e,k⟩:=b;show sZ e
 ·rename_i i;exact⟨R,c,h,w,j,i,d,qY E2 a,e,k⟩
 ·cases e
theorem Qlo(F:FnOk X.prog X.w X.K X.mg X.base CX k f fd ps (spM X.K ps.length g))(d:Cc)(j:jI)(h:mH=sO (aC f))(i:DY X.K (aC f)=true)(m:zC6)(c:Qco CX X E)
  (n:PMA X eO ms) (b:gB:=by decide) (l:kN:=by rfl) (a:w4:=by rfl) :
  PM X xY (QD ps.length g ms):=ZZ (Qke F d j h i m .nil c n b (Zg l) (VR a)) λ_ _ _=>QlQ
#print "-"
section
variable{X:Cx}{x:Str}{p pos:Pos}{e:Expr}{es:eE}{ms:MA}{id T:String}{r:bD->fR}{f:aH->MH->bJ}
theorem Qv(m:CallR X l9 r)(j:QlS X.K r f)(i:jI)(h:mH=nO)(d:qS=sO l9)(n:PMA X eO ms)(g:qR:=by decide)(b:gB:=by decide)
  (l:kN:=by rfl) (a:w4:=by rfl):PM X xY (mFn f ms):=
 ZZ (WL m i h d n g b (Zg l) (VR a)) jc9
theorem ZH(m:CallR X wS r)(j:QlS X.K r f)(i:jI)(h:mH=nO)(d:qS=sO wS)(n:PMA X eO ms)(g:qR:=by decide)(b:gB:=by decide)
  (l:kN:=by rfl) (a:w4:=by rfl):PM X xY (mFn f ms):=
 ZZ (QfU m i h d n g b (Zg l) (VR a)) jc9
#print "-"
inductive Src where
 |l (n:Nat)
 |d (n:Nat)
 |r (n:Nat)
 |v (n:Nat)
 |i (n:Nat)
 |z (n m a b:Nat)
noncomputable def Src.ok(items:aH)(h:MH):Src->Prop
 |.l n=>h[n]?=sO (.lst items)
 |.d n=>∃kvs,zA7/\kvs.map (·.1)=items
 |.r n=>h[n]?=sO (.lst items.reverse)
 |.v n=>∃kvs,zA7/\kvs.map (·.2)=items
 |.i n=>∃kvs,zA7/\kvs.map (λp=>.tup [p.1,p.2])=items
 |.z n m a b=>∃as bs,h[n]?=sO (.lst as)/\h[m]?=sO (.lst bs)/\(as.zip bs).map (λq=>.tup [q.1,q.2])=items/\as.length=a/\bs.length=b
def live(src:rC)(items:aH)(h:MH):Prop:=∀n,src=sO n->n.ok items h
noncomputable abbrev MI:=MSt->MH->Option (aH×rC×MH)
structure ItOk(K:Nd)(R:Rn)(J:It)(items:aH)(src:rC):Prop where
 go:∀i w R' h H,jY->Ac H->p5->rJ=sO w->J.go i H
 yld:∀i w R' h H x H',jY->Ac H->p5->rJ=sO w->zk7 H'->∃R'',Ext R' R''/\Rh K R'' h H'/\Rw K R'' w x
 stop:∀i R' h H,jY->Ac H->p5->items.length<=i->zi3
noncomputable def tII(K:Nd)(m:MI):TI:=λf H C=>∃R a h items b d,eV/\iR R a f/\m a h=sO (items,b,d)/\∀c e J,kW c->Rh K c d e->ItOk K c J items b->C J e
def PMI(X:Cx)(a iter:Expr)(m:MI):Prop:=PI X a iter (tII X.K m)
theorem Gh(h:PI X b iter t)(i:∀σ H C,t' σ H C->t σ H C):PI X b iter t':=λa s σ H C I q=>h a s σ H C I zN
noncomputable abbrev MG:=W->MSt->MH->Pd
noncomputable def tIG(K:Nd)(b:MG):TG:=λv g H C=>∃R a h w c,eV/\iR R a g/\iB/\b w a h=sO c/\∀e f d,kW e->Rh K e h f->iR e c d->C d f
def PMG(X:Cx)(a:Expr)(b:MG):Prop:=PG X a (tIG X.K b)
theorem Qjx(h:PG X b t)(i:∀v σ H C,t' v σ H C->t v σ H C):PG X b t':=λa s σ H v u C I r q=>h a s σ H v u C I r (i _ _ _ _ q)
noncomputable def ZK(i:Nat):MG:=λw a _=>sO (a.set i xM)
theorem QM(hN:X.N.Nodup)(hi:kJ)(d:n')(f:nW:=by show uZ) :
  PMG X mX (ZK i):=Qjx (QeH hN hi d f) <|by
 rintro v g H C ⟨R,a,h,w,b,c,st,rw,e,k⟩
 cases e;exact k R H _ c9 c (st.set rw)
open Classical in
noncomputable def Kf(items:aH)(src:rC)(b:MG)(body:SM):aH->SM
 |[],σ,h=>if p5 then m8 σ h else nO
 | w::r,σ,h=>if p5 then(b w σ h).bind λσ1=>(body σ1 h).bind λz=>match z with
   |.nx a c=>zD9 a c
   |.ct a c=>zD9 a c
   |.bk a c=>m8 a c
   |.rt v c=>sO (.rt v c)
  else nO
noncomputable def JX(mi:MI)(b:MG)(body:SM):SM:=λa h=>(mi a h).bind λp=>Kf p.1 p.2.1 b body p.1 a p.2.2
section
variable{X:Cx}{tg iter:Expr}{body:jX}{mi:MI}{b:MG}{m:SM}{pos:Pos}
theorem QnW{K:Nd}(q:tS K (JX mi b m) D σ H):QqS (tII K mi) (tIG K b) (tS K m) D σ H:=by
 obtain⟨R,A,h,r,rh,s,e,k⟩:=q;obtain⟨⟨items,t,h1⟩,e1,e2⟩:=eH e;refine⟨R,A,h,items,t,h1,rh,s,e1,λR1 H1 J x1 aa it=>?_⟩;refine⟨λi n σ H=>zH7/\∃R2 g l,zk9/\Rh K R2 l H/\iR R2 g σ/\∃r,Kf items t b m zJ8 g l=sO r/\Cq R2,⟨items.length,aY,R1,A,h1,wO,aa,xV x1,r,cL e2,Ends.ext k x1⟩,?_⟩
 rintro i n E S ⟨ae,R2,g,l,G,j,s2,r2,d,L⟩
 by_cases M:zM6
 ·obtain⟨w,hw⟩:∃w,rJ=sO w:=zJ9 M
  have hd:jj6:=by
   rw[EV M];rw[Nl M]at hw;cases hw;rfl
  rw[hd]at d;unfold Kf at d;split at d
  ·rename_i P;show fQ C e4 e5 d;show fQ z e6 Q e5;refine .inr ⟨it.go i w R2 l S G j P hw,λF T=>∃y B h4,Ext R1 y/\Rh K y h4 T/\iR y B F/\∃r,Kf items t b m (items.drop (i+1)) B h4=sO r/\Cq y,λF T hn=>⟨n-1,fZ,fZ,hn⟩,λx T hy=>?_⟩;obtain⟨y,p,Z,U⟩:=it.yld i w R2 l S x T G j P hw hy;refine⟨y,g,l,w,C,Z,s2.mono p,U,e4,λR4 H4 ab u Y s4=>?_⟩;refine⟨R4,C,l,z,Y,s4,e6,?_⟩;cases z with
   |nx f N=>exact λO H5 a o c I=>⟨O,f,N,G.trans (gD p u o),c,I,r2,Q,Ends.ext L (gD p u o)⟩
   |ct f N=>exact λO H5 a o c I=>⟨O,f,N,G.trans (gD p u o),c,I,r2,Q,Ends.ext L (gD p u o)⟩
   |bk f N=>cases Q;exact λO H5 a o c I=>L O H5 a (gD p u o) c I
   |rt v N=>cases Q;exact After.ext L (eI p u)
  ·cases d
 ·show zs6 M d;unfold Kf at d;split at d
  ·show eF P d;exact .inl ⟨it.stop i R2 l S G j P (mI M),L R2 S E c9 j s2⟩
  ·cases d
theorem Z9(c:PassesOwn bZ X.A X.env X.xe)(e:gR)(hi:Bk)(d:PMG X tg b)(f:QgJ X body m)
  (a:q8:=by intro _;rfl):PMS X zu0 (JX mi b m):=Xn (Qjh c e hi d f a) λ_ _ _=>QnW
#print "-"
section
variable{prog:Program}{w:World}{A:Around}{E:bI}{R:Result->cS}{s:Shared}
theorem QbF(I:Nat->cS)
  (t:∀n s,I n s->wpAny aX A (pyNext it) (λr d=>match r with
   |none=>R (.ok .next) d
   | gA v=>wpAny aX A (letOwnedTupleGo target it v) (λ_ b=>wpAny aX A (assign target env v) (λ_ i=>
     wpAny aX A (forIn u true λc r=>if r=true then do let ok <-isTrue c env (eval c env);jA5 else jx9) (λok a=>
      if ok=true then wpAny aX A (eval C env) (λx g=>
       wpAny aX A (call (.builtin "list.append") [D,x]) (λ_ f=>∃m,m<n/\I m f) mW g) mW a
      else∃m,m<n/\I m a) mW i) mW b) mW d) mW s)
  (n:Nat) (h:I n s) :
  codeAny aX A (.compLoop ja8 0 it D env) R s:=by
 refine codeAny_loop rfl I (jJ n s F) n h;show wpAny _ A ((compTurn ja8 0 it D env).onRaise (λx=>do noteFrame x env;theTreesLotGoes x)) _ _ s;refine wpAny_noted ?_;rw[compTurn_list];refine Na (Fe (Na (NZ (t n s F) (jJ r d l) (kL e))));cases r with
 |none=>exact Nj l
 | some v=>
  refine Na (NZ l (λ_ b p=>?_) (kL e));refine Na (NZ p (λ_ i B=>Na (NZ B (λok a j=>?_) (kL e))) (kL e));cases ok with
  |false=>exact Nj ⟨rfl,j⟩
  |true=>
   exact Na (Na (NZ j (λx g z=>Na (NZ z (λ_ f y=>Nj (Nj ⟨rfl,y⟩)) (kL e))) (kL e)))
#print "-"
theorem sz{h:Heap}(e:aI h b=sO o)(a:h.objs.size<=n):¬b=n:=λz=>by
 have c:@LT.lt Nat instLTNat b h.objs.size:=ND e;subst z;exact Dc _ (Np c a)
noncomputable abbrev blk(X:Cx)(a:Scope)(b:yT)(Nb:aD)(s₀:Shared)(H₀:Hp)(C:Addr)(ex:cV)(pn:bP):Cx:=
 { X with N:=Nb,s₀:=s₀,H₀:=H₀,env:=compEnvC a b C X.env,outer:=X.stack,stack:=X.stack,ex:=ex,fn:=λ_=>false,pn:=pn,xe:=wD }
structure BlkOk(X:Cx)(scope:Scope)(cl:yT)(Nb:aD)(cp:lU):Prop where
 clos:closureFor scope X.env=pure cl
 cell:∀y∈scope.names,zg2
 kind:scope.kind=.function
 names:∀y∈scope.names,y.2=.local->scope.names.lookup y.1=nI
 sub:∀x c,zH8->kC
 has:∀x,(RM=lF\/RM=nM)->∃c,zH8
 len:zA8
 cap:∀(i j:Nat) (x:Str),cp[i]?=sO (sO j)->Nb[i]?=sO x->X.N[j]?=sO x/\Be/\(wH x=lF\/wH x=nM)/\(RM=lF\/RM=nM)
noncomputable def QaJ(cp:lU)(σ:L2.St):L2.St:=zV1
noncomputable def Qiy(l:TI)(cp:lU)(g:TG)(tt:TT)(te:TE):TE:=λf H Q=>l f H λJ p=>∃W:Nat->Nat->bD->L2.St->dQ,(∃m,W 0 m [] (QaJ cp f) p)/\∀i m a e H,W i m a e H ->
 (zi3/\∀D,H D=nO->Q (aC D) (upd H D oN)) \/
 (J.go i H/\∀x j,zk7 j->g x e j λc o=>tt c o λb h=>if b=true then te c h λv n=>Tw/\∃d,d<m/\W (i+1) d (a++[v]) c n else∃d,d<m/\W (i+1) d a c h)
theorem Inv.track(I:cF d σ)(g:H D=nO)(h0:X.s₀.heap.objs.size<=D)(l:X.env.locals≠D)(j:∀x c,kC->c≠D)
  (i:∀p∈X.pn++d,p.1≠D) (ob:ObjOk X.prog X.w (lG D) s.heap D o):Inv X d σ (lG D) s where
 ok:=I.ok
 os:=I.os
 bare:=I.bare
 base:={
  keep:=I.base.keep
  slot:=I.base.slot
  free:=λb q e n nx=>by
   have:b≠D:=sz e h0;rw[QE this];exact I.base.free b q e n nx
  there:=I.base.there
  tups:=λb h e=>by
   have q:=I.base.tups b h e;rw[QE (i5 z g q)];exact q
  frzs:=λb q u e=>by
   have z:=I.base.frzs b q u e;rw[QE (i5 y g z)];exact z
  tbls:=λb ps e=>by
   obtain⟨more,q⟩:=I.base.tbls b ps e
   exact⟨more,by rw[QE (i5 z g q)];exact q⟩ }
 loc:=I.loc
 cell:=I.cell
 free:=by rw[QE l];exact I.free
 freeC:=λx c e=>by rw[QE (j x c e)];exact I.freeC x c e
 pin:=λp f=>by
  obtain⟨a,b,c⟩:=I.pin p f;exact⟨a,by rw[QE (i p f)];exact b,c⟩
 hok:=λa u e=>by
  by_cases z:a=D
  ·subst z;show zj9;exact ob
  ·rw[QE z]at e;refine(I.hok a u e).stay (Co q) (mK b q) (jJ b h q)
   ·rw[QE (i5 y g q)];exact q
   ·rw[QE (i5 y g q)];exact q
 len:=I.len
section
variable{X:Cx}{elt tg iter:Expr}{ifs:eE}{scope:Scope}{pos:Pos}{cl:yT}{Nb:aD}{cp:lU}{wi:TI}{g:TG}{tt:TT}{te:TE}
theorem Cx.Ok.blk(B:sT)(I:cF d σ)(f:∀b∈l,AG d H)(i:∀b∈l,Ti)(j:s.heap.objs.size<=C) :
  (blk X scope cl Nb s H C l p).Ok where
 mod:=I.ok.mod
 kind:=B.kind
 glob:=I.ok.glob
 blt:=I.ok.blt
 above:=j
 inj:=λx y c n m=>I.ok.inj x y c (B.sub x c n) (B.sub y c m)
 has:=λx h=>B.has x h
 cab:=λx c h=>absurd h aF
 hd:=I.ok.hd
 frames:=I.ok.frames
 stk:=uG
 exf:=λb a=>⟨λz=>by have:=i b a;rw[z]at this;exact absurd j (Ih.mpr this),λx c e=>(f b a).2.2.2.2.1 x c Ml⟩
 bs:=I.bs
 bsz:=Ng I.ok.bsz I.sz
 noex:=λb o e a=>by
  rcases(f b a).2.2.2.1 with z|z
  ·exact I.ok.noex b o e z
  ·exact sz e (Ng I.ok.bsz z) rfl
 exfs:=λb a z=>by
  have:=I.stkSub b z
  rcases NC.mp this with q|q
  ·exact(f b a).2.1 q
  ·exact(f b a).2.2.1 q
 funs:=I.stack
 frf:=λb a=>I.stkFree b a
theorem QeU{cp:lU}{σ:L2.St}{i:Nat}{v:V}(e:(QaJ cp σ)[i]?=sO j1):∃j,cp[i]?=sO (sO j)/\σ[j]?=sO j1:=by
 unfold QaJ at e;rw[Nx]at e;show dI o c a e;cases o with
 |none=>cases a
 |some j=>
  show rW j c;simp only at a;split at a
  ·rename_i u b;rw[b,a]
  ·cases a
theorem Inv.blk{H:Hp}{C:Addr}{M:cV}{tk:Nat}(B:sT)(I:cF f σ)(O:∀b∈M,AG f H)(F:∀b∈M,Ti)
  (G:s.heap.objs.size<=C) (D:h'.Ns C m) (y:∀b o,bK b=sO o->aI h' b=sO o):Inv (Mi.blk X scope cl Nb s H C M (X.pn++f)) [] (QaJ cp σ) H { s with heap:=h',toks:=tk } where
 ok:=Cx.Ok.blk B I O F G
 os:=rfl
 bare:=I.bare
 base:=Un.kept y
 loc:=by
  refine⟨m,D,λi x v hN e Z=>?_⟩;obtain⟨j,S,R⟩:=QeU e;obtain⟨Q,t,E,w⟩:=B.cap i j x S hN;obtain⟨Y,U,lk⟩:=I.loc;obtain⟨u,r,l⟩:=lk j x v Q R t;show rW u r
  rcases l with⟨h,_⟩|⟨_,c,P,n⟩
  ·rcases E with z|z<;>rw[z]at h<;>cases h
  ·refine .inr (xU w);obtain⟨T,A⟩:=B.has x w;have:=B.sub x T A;show oB P
   exact⟨c,A,by
    show fH o L J n
    exact⟨o,y _ _ L,J⟩⟩
 cell:=λx c e=>by
  obtain⟨v,o,L,J⟩:=I.cell x c Ml;exact⟨v,o,y _ _ L,J⟩
 free:=I.hok.fresh G
 freeC:=λx c e=>I.freeC x c Ml
 pin:=λp N=>by
  rw[E2]at N;obtain⟨a,b,c,d,e⟩:=I.pin p N;refine⟨y _ _ a,b,fX z,fX z,e⟩
  ·have:=ND a;rw[z]at this;exact absurd G (Ih.mpr this)
  ·show zy3 I
   ·exact c q
   ·exact d q
 hok:=I.hok.kept y
 len:=by unfold QaJ;rw[Nz];exact B.len
def Qp2(X:Cx)(a:bP)(σ:L2.St)(use:Option (Value->Sem Unit))(Q:VK)(Q':bI):Prop:=
 ∀(D C:Addr) (d:Hp) (b:Shared) (m:c'),iG a σ d b->b.heap.Ns C m->d C=nO->¬C=X.env.locals->X.s₀.heap.objs.size<=C->(∀x c,kC->c≠C)->(∀p∈X.pn++a,p.1≠C)->Q (aC D) d ->
  compPost bZ X.A X.xe use Q' (aC D) C (.ok .next) b
theorem Qdk(hc:gR)(B:sT)(hi:V')(hg:∀O R C ex pn,PG RO tg g)
  (ht:∀O R C ex pn,∀(j:bP) (s:Shared) (Z:L2.St) (H:Hp) (Q:Bool->dQ),Inv RO j Z H s->tt Z H Q ->
   wpAny bZ X.A zm2 (TP RO j Z Q) mW s)
  (he:∀O R C ex pn,PE RO elt te) (hs:q8)
  (I:cF j σ) (h:Qiy wi cp g tt te σ H Q) (a4:Qp2 X j σ use Q Q') :
  wpAny bZ X.A (comprehension AL scope X.env bn (newList []) false zB9 use) Q' X.xe s:=by
 refine wpAny_comprehension_free (use:=use) rfl hs B.clos B.kind B.names (NZ (hi j s σ H _ I h) (λxv bm U=>NZ U (λbo f a1=>?_) (gL e)) (gL e));obtain⟨it,fp,tn,J,Y,rfl,I2,T,ar,f2,W,⟨m0,w0⟩,ay⟩:=a1
 have au:∀b∈fp,b<f.heap.objs.size:=λb E=>by
  obtain⟨o,e,_⟩:=T.obj _ _ ar b E;exact ND e
 refine Eh (wpAny_newFunctionEnv B.cell (by intro y hy;simp at hy) (jJ U M F) B.kind);dsimp only at M F ⊢;generalize av:f.heap.push { cls:=eC,dict:=nO,data:=.seq ([]:aZ).toArray }=G2 at M F ⊢;have al:G2.objs.size=f.heap.objs.size+1:=by rw[<-av,Lb]
 generalize be:G2.objs.size=C at M F ⊢;rw[be]at al;have ab:f.heap.objs.size<=C:=by exact Ng dZ (Nu al.symm)
 have ai:f.heap.objs.size≠C:=by exact NY (Np uP (Nu al.symm))
 have old:∀b o,jF f b=sO o->aI U b=sO o:=λb o e=>F.extBut b o (sz e ab) (Nq _ (av▸k8));have an:zJ3 U f=sO { cls:=eC,data:=.seq ([]:aZ).toArray }:=F.extBut _ _ ai (Nq _ (av▸fM));generalize hD:f.heap.objs.size=D at an ai ab al ⊢;have m:f.heap.objs.size<=D:=Nu hD;have N:f.heap.objs.size<=C:=Ng m ab;have I3:=Inv.blk (tk:=f.toks+([]:vP).length) B I2 f2 au (C:=C) (Ng (Nu hD) ab) M old;have ao:D∉fp:=λz=>Dc _ (Np (au D z) m);have a5:C∉fp:=λz=>Dc _ (Np (au C z) N)
 have ax:∀x c,zH8->c≠D:=λx c e z=>by
  obtain⟨v,o,h3,_⟩:=I2.cell x c Ml;exact sz h3 m z
 have ap:∀p∈X.pn++j,p.1≠D:=jy0 m;have a7:∀p∈X.pn++j,p.1≠C:=jy0 N
 have bg:D∉frs X.stack:=λz=>by
  show zy3 I2
  ·exact zs7 q D m
  ·exact I2.nofs m q
 have aj:∀{t:Hp} {pl:bP},Ta->(∀p∈pl,p.1=D)->∀b∈fp,Qeo nX pl t b:=λ{t pl} hn bb b E=>
  ⟨hn b E,λ(z:b=C)=>a5 (z▸E),λz=>by
   show zy3 I2
   ·exact(f2 b E).2.1 q
   ·exact(f2 b E).2.2.1 q,dU E,λx c e=>(f2 b E).2.2.2.2.1 x c Ml,λp P z=>by
   show tX P q
   ·exact(f2 b E).2.2.2.2.2 p q z
   ·rw[bb p q]at z;exact ao (z▸E)⟩
 have bp:∀{t:Hp},Ta->∀b∈fp,AG j t:=jp8 E
 have fin:∀{Z:L2.St} {t:Hp} {L:Shared} {G:bD} {l:aZ} {n:Nat} {mC:c'},Inv nX [] Z t L->t D=nO->jF L D=sO { cls:=eC,data:=jV l n }->Vals G l->G.length<=sizeLine->L.heap.Ns C mC ->
   (∀D,t D=nO->Q (aC D) (upd t D (.lst G)))->compPost bZ X.A X.xe use Q' (aC D) C (.ok .next) L:=by
  intro Z t L G l n mC Ib ak aw r hz bc q;have Ie:iG j σ t L:=I2.call' (ch:=fp) (Ib.os) Ib.base Ib.hok Ib.bare λb E=>zX6 f2 E
  have a2:X.s₀.heap.objs.size<=f.heap.objs.size:=I2.sz
  have It:Inv X j σ (upd t D (.lst G)) L:=Inv.track Ie ak (Ng a2 m) (λz=>zs7 z D m) (λx c e z=>by
   obtain⟨v,o,h3,_⟩:=rT I2 x
   exact sz h3 m z) ap ⟨hz,l,n,r,aw⟩
  exact a4 D C _ L mC It bc (by rw[QE (EB ai)];exact Ib.free) (λz=>zs7 z C N) (Ng a2 N) (λx c e z=>by
   obtain⟨v,o,h3,_⟩:=rT I2 x
   exact sz h3 N z) a7 (q D ak)
 have am:∀af:Shared,af={ f with heap:=U,toks:=f.toks+([]:vP).length } ->
   codeAny bZ X.A (.compLoop AL 0 iE (aC D) zt6)
    (compPost bZ X.A X.xe use Q' (aC D) C) af:=by
  rintro af rfl
  refine QbF (λn L=>∃i Z t G l k,Inv nX [] Z t L/\Cz L/\Ta/\t D=nO/\jF L D=sO { cls:=eC,data:=.seq (l:aZ).toArray k }/\Vals G l/\G.length<=sizeLine/\W i n G Z t) ?_ m0
   ⟨0,QaJ cp σ,Y,[],[],_,I3,T.keep _ _ _ ar jy1,pH E f2,I2.hok.fresh m,an,.nil,Eg _,w0⟩
  rintro n s3 ⟨i,Z,H3,G,l,k,Ib,az,a6,ak,aw,r3,as,w3⟩
  have a0:∀{S:L2.St} {t:Hp} {L:Shared},Inv nX [] S t L->t D=nO->jF L D=sO { cls:=eC,data:=jV l k } ->
    Inv nX [(D,{ cls:=eC,data:=jV l k })] S t L:=λ{S t L} I' hn ho=>I'.pins_of λp P=>by
   rw[NK]at P;subst P;exact⟨ho,hn,ai,bg,by intro v;simp⟩
  have a8:=a0 Ib ak aw;have aa:∀p∈[(D,({ cls:=eC,data:=jV l k }:Obj))],p.1=D:=λp P=>by rw[NK]at P;subst P;rfl
  have a9:∀{S:L2.St} {t:Hp} {L:Shared},Inv nX [(D,{ cls:=eC,data:=jV l k })] S t L->jF L D=sO { cls:=eC,data:=jV l k }/\t D=nO:=λI'=>by
   obtain⟨a,b,_⟩:=I'.pin (D,_) (NS _ zP9);show lL a b
  rcases ay i n G Z H3 w3 with⟨stop,qn⟩|⟨go,step⟩
  ·refine NZ (T.done nX rfl rfl rfl hc i _ s3 Z H3 mW a8 (aj a6 aa) az stop) (λr s4 ⟨hr,I4⟩=>?_) (kL z);subst hr;obtain⟨o4,n4⟩:=a9 I4;obtain⟨m4,ba,_⟩:=I4.loc;have bj:Inv nX [] Z H3 s4:=I4.pins_of λp P=>fN P
   exact fin bj n4 o4 r3 as ba qn
  ·refine NZ (T.item nX rfl rfl rfl hc i _ s3 Z H3 mW a8 (aj a6 aa) az go) (λr s4 ⟨u,hr,h4⟩=>?_) (kL z);subst hr;refine NZ h4 (λ_ s5 z1=>?_) (kL z);obtain⟨x,H5,I5,r5,y5,aq,bf⟩:=z1;have bi:=I5.pinned (aj bf aa) (T.obj _ _ aq);refine NZ (hg f Y C fp zk0 _ s5 Z H5 x u _ bi r5 (step x H5 y5)) (λ_ s6 z0=>?_) (kL z);obtain⟨ae,H6,I6,q6⟩:=z0;refine NZ (ht f Y C fp zk0 _ s6 ae H6 _ I6 q6) (λok s7 ⟨H7,I7,q7⟩=>?_) (kL z)
   have ah:∀{S:L2.St} {t:Hp} {L:Shared},Inv nX ([(D,{ cls:=eC,data:=jV l k })]++QaQ fp s5.heap) S t L->tn (i+1) L.heap/\Ta/\jF L D=sO { cls:=eC,data:=jV l k }/\t D=nO:=λ{S t L} I'=>by
    refine⟨T.keep _ _ _ aq λb E o e=>(I'.pin (b,o) (TD E)).1,bQ b E,?_⟩
    ·obtain⟨o,e,d⟩:=T.obj _ _ aq b E;exact(I'.pin (b,o) (TD E)).2.1
    ·obtain⟨a,b,_⟩:=I'.pin (D,{ cls:=eC,data:=jV l k }) (NS _ (Ee _ zP9));show lL a b
   cases ok with
   |false=>
    rw[if_neg EC]at q7 ⊢;obtain⟨m',hm,w7⟩:=q7;obtain⟨t7,f7,o7,n7⟩:=ah I7;exact⟨m',hm,i+1,ae,H7,G,l,k,I7.pins_of (λp P=>fN P),t7,f7,n7,o7,r3,as,w7⟩
   | true=>
    rw[nC]at q7 ⊢;refine NZ (he f Y C fp zk0 _ s7 ae H7 _ I7 q7) (jJ y s8 z1) (kL z);obtain⟨v8,H8,I8,r8,bd,m',hm,w8⟩:=z1;obtain⟨t8,f8,o8,n8⟩:=ah I8;show g6 a3 r3;refine DN NJ (gH o8) O1 (OG _ _) (Yaq D l.toArray k y (by rw[Nr];exact Ng (dX a3) as)) (xU o8);have q:=YaD o8 (·.push y);have hf:l.toArray.push y=(l++[y]).toArray:=aY
    rw[hf]at q;have bh:Inv nX [] ae H8 s8:=I8.pins_of λp P=>fN P
    have I9:Inv nX [] ae H8 { s8 with heap:=s8.heap.update D (Obj.mapSeq (·.push y)),toks:=s8.toks }:=
     bh.turned (it:=D) (λb o E e=>(N3 s8.heap (Obj.mapSeq (·.push y)) (EB E)).trans e) n8 ai (.inr m) (λx c e=>ax x c e) λp P=>by
      rw[E2]at P;exact ap p P
    refine⟨m',hm,i+1,ae,H8,G++[v8],l++[y],_,I9,T.keep _ _ _ t8 (λb E o e=>(N3 s8.heap (Obj.mapSeq (·.push y)) (λ(z:D=b)=>ao (z▸E))).trans e),f8,n8,q,r3.append (Cp r8),by rw[Nw,NX];exact bd,w8⟩
 exact codeAny_compStart_list (am _ rfl) (T.self _ 0 _ _ _ (T.keep _ _ _ ar jy1) (am _ rfl))
theorem QgT(G:gR)(B:sT)(hi:V')(E:∀a d C ex j,PG (j4 a d j) tg g)
  (u:∀a d C ex j,∀(f:bP) (s:Shared) (l:L2.St) (H:Hp) (Q:Bool->dQ),Inv (j4 a d j) f l H s->tt l H Q ->
   wpAny bZ X.A zm2 (TP (j4 a d j) f l Q) mW s)
  (F:∀a d C ex j,PE (j4 a d j) elt te) (v:q8:=by intro _;rfl) :
  PE X AL (Qiy wi cp g tt te):=by
 show cZ f R Q;rw[eval_ListComp];refine Qdk G B hi E u F v I h λD C P t m O n z L M i y q=>⟨m,n,bQ N p⟩
 exact⟨aG D,P,O.turned (t':=t.toks) (it:=C) (λb o J e=>p.extBut b o J e) z L (.inr M) i y,rfl,q⟩
theorem Qe6(hN:X.N.Nodup)(M:kJ)(T:n')(hf:nW)(G:swapsWith AL (sO (sA j)) t.line X.env=pure true)
  (hc:gR) (B:sT) (hi:V') (hg:∀d f C ex p,PG (j4 d f p) tg g)
  (U:∀d f C ex p,∀(l:bP) (s:Shared) (E:L2.St) (H:Hp) (Q:Bool->dQ),Inv (j4 d f p) l E H s->tt E H Q ->
   wpAny bZ X.A zm2 (TP (j4 d f p) l E Q) mW s)
  (he:∀d f C ex p,PE (j4 d f p) elt te) (Y:q8:=by intro _;rfl) :
  PS X (.Assign [.Name x j] AL t) (QpF (Qiy wi cp g tt te) (QeQ i)):=by
 show cZ l σ D;rw[exec_Assign_Name_used _ _ _ _ G];refine Na (Fe (Na ?_));show wpAny _ X.A (do let _ <-comprehension AL scope X.env _ (newList []) false zB9 (sO (assign (sA j) X.env))) _ _ s;refine Na (NZ (Qdk (use:=sO (assign (sA j) X.env)) (Q':=λ_ y=>SP X l D .next y) hc B hi hg U he Y I h λP C H' y m I' J hn O h0 n hp q=>?_) (λ_ y Z=>Nj (Nj Z)) (gL e));show wpAny _ X.A (assign (sA j) X.env (aC P)) _ _ y;refine wpAny_assign_Name (Qa5 (v:=aG P) I' hN M T rfl (λS I5 ⟨a,R,u⟩=>?_) hf)
 have L:C≠a:=λz=>by
  show kP u
  ·exact O (eI z u)
  ·exact n x a u z.symm
 exact⟨m,J.sameBut R L,λaa F=>⟨_,H',I5.turned (t':=S.toks) (it:=C) (λb o hb e=>F.extBut b o hb e) hn O (.inr h0) n hp,q⟩⟩
#print "-"
def IterR(X:Cx)(c:Expr)(r:V->Hp->(It->dQ)->Prop):Prop:=
 ∀(a:bP) (s:Shared) (b:L2.St) (H:Hp) (x:V) (v:Value) (C:It->dQ),cF a b->nL->r x H C->wpAny bZ X.A (pyIter v) (PIE X a b c C) X.xe s
section
variable{X:Cx}{tg:Expr}
theorem IterR.or(h:IterR X tg r)(h':IterR X tg d):IterR X tg (λx H C=>r x H C\/d x H C):=λa s b H x v C I c q=>by
 show kP q
 ·exact h a s b H x v C I c q
 ·exact h' a s b H x v C I c q
theorem it_list:IterR X tg (λx H C=>∃a,x=aG a/\(∃xs,za8)/\C (Itl X.K a) H):=by
 intro d c m l x v C I1 f g;obtain⟨a,e,⟨xs,i⟩,q⟩:=g;show lK e f;obtain⟨h,r,p,s⟩:=As i;refine Lr p.isList ?_;refine⟨c.heap.objs.size,K' c,_,_,l,rfl,RS c,QeT a _,⟨_,fM,rfl,rfl⟩,bQ b j,q⟩;have e:b=c.heap.objs.size:=cL j
 subst e;exact I1.fpOk cO (I1.hok.fresh cO)
theorem Qor:IterR X tg (λx H C=>∃a,x=aG a/\(∃xs,za9)/\C (Itt X.K a) H):=by
 intro f c m l x v C I1 g h;obtain⟨a,e,⟨xs,i⟩,q⟩:=h;show lK e g;obtain⟨d,r,p,s⟩:=I1.tuple i;refine FY (Hn c a d p) ?_;refine⟨c.heap.objs.size,K' c,_,_,l,rfl,RS c,QdX a _,⟨_,fM,rfl,rfl⟩,bQ b j,q⟩;have e:b=c.heap.objs.size:=cL j
 subst e;exact I1.fpOk cO (I1.hok.fresh cO)
noncomputable def Its(x:Str):It:=⟨λi _=>i<x.cps.size,λi H v a=>a=H/\∃c,x.cps[i]?=sO c/\v=.str hG,λi _=>zQ0⟩
noncomputable def X7(x:Str):aH:=x.cps.toList.map λc=>.str hG
theorem Qiu{P:Program}{w:World}{K:Nd}{tg:Expr}(it:Addr)(x:Str)(ty:String)(t:Tok)(f:jA6\/ty="str_iterator") :
  Turn P w K tg (Its x) [it] it (λi h=>i<=x.cps.size/\h.IsStrIter it ty x t i) where
 mem:=aY
 obj:=λi h st b j=>by
  have e:b=it:=cL j
  show zw3;exact⟨o,e,λv z=>by show bT d z⟩
 keep:=λi h l st k=>⟨st.1,let⟨o,U,r⟩:=st.2;⟨o,k it aF o U,r⟩⟩
 item:=by
  intro X M hw N L i a s J H E I B st p;subst M hw N;obtain⟨Y,st⟩:=st;obtain⟨G,f1,f2,F,D,C⟩:=B it aF;have g:i<x.cps.size:=p;have m:x.cps[i]?=sO (x.cps[i]'g):=Ef g
  have fin:∀l:Heap,l.IsStrIter it ty x t (i+1)->zz5 l->∃u,sO (Value.str ⟨#[x.cps[i]'g]⟩ s.toks)=sO u/\wpAny bZ X.A (letOwnedTupleGo tg iE u) (λ_ R=>∃y Q,iG a J Q R/\dJ y/\(Its x).yld i H y Q/\(i+1<=x.cps.size/\R.heap.IsStrIter it ty x t (i+1))/\∀b∈[it],Q b=nO) E { s with heap:=l,toks:=hJ }:=λl n T=>by
   have I1:Inv X a J H { s with heap:=l,toks:=hJ }:=I.turned (Hu j T) G f1 F D C;show L' n;refine⟨_,rfl,QdI (s:={ s with heap:=l,toks:=hJ }) e c d (by rcases f with z|z<;>rw[z]<;>decide) ⟨.str ⟨#[x.cps[i]'g]⟩,H,I1,cN,⟨rfl,_,m,rfl⟩,iI p n,pH j B⟩⟩
  show iP f z
  ·subst z;exact wpAny_pyNext_ascii_item st m fin
  ·subst z;exact wpAny_pyNext_wide_item st m fin
 done:=by
  intro X M hw N L i a s J H E I B st p;subst M hw N;obtain⟨Y,st⟩:=st;obtain⟨G,f1,f2,F,D,C⟩:=B it aF;have m:x.cps[i]?=nO:=by have:zQ0:=p;simp;exact this
  show iP f z
  ·subst z;exact wpAny_pyNext_ascii_end (pS L) st m λl O=>⟨rfl,I.turned (t':=s.toks) jx4 G f1 F D C⟩
  ·subst z;exact wpAny_pyNext_wide_end (pS L) st m λl O=>⟨rfl,I.turned (t':=s.toks) jx4 G f1 F D C⟩
 self:=λ_ _ _ _ _ st h=>by
  show iP f z
  ·subst z;exact wpAny_pyIter_striter_ascii st.2 h
  ·subst z;exact wpAny_pyIter_striter_wide st.2 h
theorem Qpf:IterR X tg (λx H C=>∃y,x=aJ y/\C (Its y) H):=by
 intro c a g l x v C I1 h i;obtain⟨y,rfl,q⟩:=i;show aO t h
 have fin:∀ty,(jA6\/ty="str_iterator")->PIE X c g tg C (.ref a.heap.objs.size) { a with heap:=a.heap.push { cls:=.type ty,data:=.fields #[.str y t,CF] } }:=λty d=>by
  refine⟨a.heap.objs.size,K' a,_,_,l,rfl,RS a,Qiu _ y ty t d,⟨Eg _,_,fM,rfl,rfl⟩,bQ b j,q⟩;have e:b=a.heap.objs.size:=cL j
  subst e;exact I1.fpOk cO (I1.hok.fresh cO)
 cases f:y.cps.all (·<128)
 ·exact wpAny_pyIter_wide f (fin _ wM)
 ·exact wpAny_pyIter_ascii f (fin _ fE)
#print "-"
noncomputable def QjB(h:MH):W->Option (aH×rC)
 |fA=>sO (ws,nO)
 |eZ=>sO (ws,nO)
 |oP=>sO (ws,nO)
 |aJ x=>sO (X7 x,nO)
 |aG n=>match h[n]? with|some kO=>sO (ws,sO (.l n))|_=>nO
 |_=>nO
noncomputable def QP(m:ME):MI:=λa h=>(m a h).bind λp=>(QjB p.2 p.1).map λq=>(q.1,q.2,p.2)
section
variable{K:Nd}{R:Rn}
theorem Qbi(d:Md)(r:gZ):ItOk K R (Itl K a) ws nO where
 go:=λi w j h H x c _ e=>by
  obtain⟨v,g,_⟩:=r.get e;exact⟨xs,v,ZA (h9 c x) d,g⟩
 yld:=λi w j h H x t e c _ s l=>by
  show uD m l;show fY v g p r s;have:=m xs (ZA (h9 c e) d);show oB g;show S0 c
 stop:=λi j h H x c _ n=>⟨xs,ZA (h9 c x) d,oX r n⟩
theorem Qh8(d:zb3)(r:gZ):ItOk K R (Itt K a) ws nO where
 go:=λi w j h H x c _ e=>by
  obtain⟨v,g,_⟩:=r.get e;exact⟨xs,v,Jv (h9 c x) d,g⟩
 yld:=λi w j h H x t e c _ s l=>by
  show uD m l;show fY v g p r s;have:=m xs (Jv (h9 c e) d);show oB g;show S0 c
 stop:=λi j h H x c _ n=>⟨xs,Jv (h9 c x) d,oX r n⟩
theorem Qhf(g:n<R.N):ItOk K R (Itl K kQ) ws (sO (.l n)) where
 go:=λi w o h H x b d e=>by
  show zr5;obtain⟨v,m,_⟩:=f.get e;rw[x.ρ n g]at a;exact⟨c,v,kB a,m⟩
 yld:=λi w o h H x u e b d t p=>by
  show uD r p;show zr5;show fY v m s f t;rw[e.ρ n g]at a;have:=r c (sI a);show oB m;exact⟨o,wO,b,s⟩
 stop:=λi o h H x b d j=>by
  show zr5;rw[x.ρ n g]at a;exact⟨c,kB a,oX f j⟩
theorem QhW:ItOk K R (Its x) (X7 x) nO where
 go:=λi w b h H _ _ _ e=>by
  have:=cG e;show i<x.cps.size;simpa[X7]using this
 yld:=λi w b h H v l e d _ a f=>by
  obtain⟨rfl,c,j,rfl⟩:=f;unfold X7 at a;rw[Nx,EN,j]at a;cases a;exact⟨b,wO,d,Rw.str _⟩
 stop:=λi b h H _ _ _ g=>by
  show zQ0;simpa[X7]using g
theorem QdP{lo:Int}:ItOk K R (Itr lo n) ((List.range n).map λ(i:Nat)=>W.int (lo+eB)) nO where
 go:=λi w b h H _ _ _ e=>by
  have:=cG e;show i<n;show iA
 yld:=λi w b h H v m e d _ c f=>by
  obtain⟨rfl,rfl⟩:=f;rw[Nx]at c;show dI j a l c;rw[De (by have:=cG a;show iA)]at a;show oS a l;exact⟨b,wO,d,Rw.int _⟩
 stop:=λi b h H _ _ _ g=>by
  show n<=i;show lJ g
#print "-"
section
variable{X:Cx}{tg a b c:Expr}{ma:ME}{ms:MA}{pos p:Pos}
theorem ZT(P:lD):PMI X tg a (QP ma):=by
 intro j s E H C I q;obtain⟨R,u,h,items,F,h',J,st,e,k⟩:=q;show cX w S Z Y e;obtain⟨⟨N,sr⟩,i,U⟩:=mJ Y;cases U;refine thn (P j s E H _ I ⟨R,u,h,w,S,J,st,Z,fB R1 m v o d g⟩) λv G ⟨x,m,I1,L,M⟩=>((it_list.or Qor).or Qpf) j G E m x v C I1 L M;cases w with
 |tup A=>
  cases i;show p4 z D Q d g;show fG g;show cA t f T l r g;cases T;exact .inl (.inr ⟨_,rfl,iI z D,k R1 m _ o d (Qh8 l r)⟩)
 |lst A=>
  cases i;show fG g;obtain⟨t,f,rfl,l,r⟩:=g;exact .inl (.inl ⟨_,rfl,⟨f,zc2 d l⟩,k R1 m _ o d (Qbi (sI l) r)⟩)
 |frz A=>
  cases i;show fG g;obtain⟨t,f,rfl,l,r⟩:=g;exact .inl (.inl ⟨_,rfl,⟨f,ZA d.sub l⟩,k R1 m _ o d (Qbi l r)⟩)
 |str y=>
  cases i;rw[g.str_eq];exact .inr ⟨y,rfl,k R1 m _ o d QhW⟩
 |ref n=>
  simp only[QjB]at i;split at i
  ·show sB A O i;show wG B z D Q d g O;exact .inl (.inl ⟨_,rfl,⟨z,kB D⟩,k R1 m _ o d (Qhf B)⟩)
  ·cases i
 |_=>cases i
noncomputable def Zj(lo:Int)(n:Nat):aH:=(List.range n).map λ(i:Nat)=>W.int (lo+eB)
noncomputable def KA(ms:MA):MI:=λd h=>(ms d h).bind λp=>match p.1 with
 |[aL j]=>if -(2^62)<=j/\j<2^62 then sO (Zj 0 j.toNat,nO,p.2)else nO
 |_=>nO
theorem KP(A:Gl X "range")(z:X.mg "range"=nO)(B:Mw)(y:qA:=by rfl):PMI X tg je9 (KA ms):=
 Gh (QgM A z B y) λG H C o=>by
  obtain⟨R,f,h,items,u,J,w,st,e,k⟩:=o;show cX s D E d e;refine⟨R,f,h,s,D,w,st,E,fB R1 F I r g i⟩;split at d
  ·rename_i j m;show zH m;split at d
   ·show eF n d;show lN i v t x l;show lR l;rw[x.int_eq];exact⟨j,rfl,n.1,n.2,k R1 F _ r g QdP⟩
   ·cases d
  ·cases d
#print "-"
noncomputable def Qd3(cp:lU)(σ:MSt):MSt:=zV1
theorem Rst.cap{K:Nd}(s:iR R b σ)(cp:lU):Rst K R (Qd3 cp b) (QaJ cp σ):=by
 unfold Qd3 QaJ;refine⟨aY,aP i w e⟩;rw[Nx]at e ⊢;show dI o g a e;rw[g];cases o with
 |none=>cases a
 |some j=>
  simp only at a;split at a
  ·rename_i u c;subst a;obtain⟨v,f,d⟩:=s.2 j w c;exact⟨v,oO f,d⟩
  ·cases a
open Classical in
noncomputable def XQ(fin:aH->MH->bJ)(items:aH)(src:rC)(b:MG)(mt:MT)(me:ME):aH->aH->MSt->MH->bJ
 |[],a,_,h=>if p5 then fin a h else nO
 | w::r,a,d,h=>if p5 then(b w d h).bind λc=>(mt c h).bind λq=>match q.1 with
   |true=>(me c q.2).bind λv=>if Tw then XQ fin items src b mt me r (a++[v.1]) c v.2 else nO
   |false=>XQ fin items src b mt me r a c q.2
  else nO
noncomputable def Zc(fin:aH->MH->bJ)(mi:MI)(cp:lU)(b:MG)(mt:MT)(me:ME):ME:=λa h=>(mi a h).bind λp=>XQ fin p.1 p.2.1 b mt me p.1 [] (Qd3 cp a) p.2.2
noncomputable def KS:MT:=λ_ h=>sO (true,h)
noncomputable def Jd(a:aH)(h:MH):bJ:=sO (.lst a,h)
def QdG(K:Nd)(fin:aH->MH->bJ):Prop:=∀R h H b a w d D,eV->Rws K R b a->fin b h=cP w d->H D=nO->∃c,kW c/\Rh K c d (upd H D oN)/\Rw K c w (aC D)
theorem Z1{K:Nd}:QdG K Jd:=λR h H d a w f D b r e c=>by
 cases e;exact b.lstI c r
section
variable{X:Cx}{elt tg iter c:Expr}{scope:Scope}{pos:Pos}{cl:yT}{Nb:aD}{cp:lU}{mi:MI}{b:MG}{mt:MT}{me:ME}{fin:aH->MH->bJ}
theorem G1{K:Nd}(hf:QdG K fin)(q:tI K zw4 σ H Q):Qiy (tII K mi) cp (tIG K b) (tIT K mt) (tI K me) σ H Q:=by
 obtain⟨R,B,h,w,h',rh,s,e,k⟩:=q;obtain⟨⟨items,E,h1⟩,e1,e2⟩:=eH e;refine⟨R,B,h,items,E,h1,rh,s,e1,λR1 H1 J x1 Y it=>?_⟩;refine⟨λi n z τ H=>zH7/\∃R2 g o a,zk9/\Rh K R2 o H/\iR R2 g τ/\Rws K R2 a z/\XQ fin items E b mt me zJ8 a g o=cP w h'/\u5 R2 h',⟨items.length,aY,R1,Qd3 cp B,h1,[],wO,Y,(s.mono x1).cap cp,Rws.nil,cL e2,k.ext x1⟩,?_⟩
 rintro i n z τ S ⟨ae,R2,g,o,a,C,m,s2,M,f,Z⟩
 by_cases G:zM6
 ·obtain⟨y,N⟩:∃y,rJ=sO y:=zJ9 G
  have hd:items.drop i=y::items.drop (i+1):=by
   rw[EV G];rw[Nl G]at N;cases N;rfl
  rw[hd]at f;unfold XQ at f;split at f
  ·rename_i O;show fQ d e4 e5 f;show cX t h3 e6 e7 e5;refine .inr ⟨it.go i y R2 o S C m O N,λx H' aa=>?_⟩;obtain⟨R3,l,r,p⟩:=it.yld i y R2 o S x H' C m O N aa;refine⟨R3,g,o,y,d,r,s2.mono l,p,e4,λR4 H4 ab A U L=>?_⟩;refine⟨R4,d,o,t,h3,U,L,e6,fC R5 H5 j F⟩;cases t with
   |true=>
    show cX v h4 e8 P e7;show sZ P
    ·rename_i hz;refine Qjq ⟨R5,d,h3,v,h4,F,L.mono j,e8,λR6 H6 u I T rv=>⟨by show sK M;exact hz,n-1,aU,aU,R6,d,h4,a++[v],C.trans (l.trans (gD A j I)),T,L.mono (eI j I),?_,P,Z.ext (l.trans (gD A j I))⟩⟩;exact Rws.append (Rws.mono (l.trans (gD A j I)) _ _ M) (Rws.cons rv Rws.nil)
    ·cases P
   |false=>
    exact QjO ⟨n-1,aU,aU,R5,d,h3,a,C.trans (gD l A j),F,L.mono j,Rws.mono (gD l A j) _ _ M,e7,Z.ext (gD l A j)⟩
  ·cases f
 ·show zs6 G f;unfold XQ at f;split at f
  ·rename_i O;refine .inl ⟨it.stop i R2 o S C m O (mI G),λD hD=>?_⟩;obtain⟨R3,l,r,p⟩:=hf R2 o S a z w h' D m M f hD;exact Z R3 _ _ l r p
  ·cases f
theorem VB(o:zg3)(r:gR)(B:sT)(hi:Bk)(n:∀a d C ex f,PMG (j4 a d f) tg b)
  (p:∀a d C ex f,PM (j4 a d f) elt me) (m:q8:=by intro _;rfl) :
  PM X zo6 jy2:=
 ZZ (QgT (g:=zl0) (te:=zl1) (tt:=tIT X.K KS) r B hi n (λa d C ex f i s u H Q I q=>wpAny_tests_nil (by
  obtain⟨R,j,h,t,y,l,st,e,k⟩:=q;cases e
  exact⟨H,I,k R H c9 l⟩)) p m) λ_ _ _ q=>G1 o q
theorem YS(m:zg3)(o:gR)(B:sT)(hi:Bk)(l:∀a d C ex e,PMG (j4 a d e) tg b)
  (i:∀a d C ex e,PMT (j4 a d e) c mt)
  (n:∀a d C ex e,PM (j4 a d e) elt me) (j:q8:=by intro _;rfl) :
  PM X zo3 zw4:=
 ZZ (QgT (g:=zl0) (te:=zl1) (tt:=tIT X.K mt) o B hi l (λa d C ex e f s h H Q I q=>wpAny_tests_one (i a d C ex e f s h H Q I q)) n j) λ_ _ _ q=>G1 m q
#print "-"
open PySem.SeqAt
mutual
noncomputable def eqW:W->rX
 |.non,.non=>true
 |.bl a,.bl b=>a==b
 |.bl a,aL b=>(tF a)==b
 |aL a,.bl b=>a==(tF b)
 |aL a,aL b=>a==b
 |aJ a,aJ b=>a==b
 |mL a,mL b=>K5 a b
 |.lst a,.lst b=>K5 a b
 |_,_=>false
noncomputable def K5:aH->aH->Bool
 |[],[]=>true
 |x::xs,y::ys=>eqW x y&&K5 xs ys
 |_,_=>false
end
noncomputable def Vi(f:b->kA a):gN b->ze9 a
 |[]=>sO []
 |x::xs=>(f x).bind λy=>(Vi f xs).map (y::·)
noncomputable def drf(h:MH):Nat->W->cH
 |0,_=>nO
 |n+1,w=>match w with
  |fA=>(Vi hH ws).map .tup
  |eZ=>(Vi hH ws).map .lst
  |oP=>(Vi hH ws).map .lst
  |aG k=>match h[k]? with|some kO=>(Vi hH ws).map .lst|_=>nO
  |.ty _=>nO
  |.non=>sO .non
  |.bl b=>sO pP
  |aL i=>aS i
  |aJ x=>bA x
theorem Zp:∀{xs:gN p} {ys:gN o},Vi f xs=sO ys->xs.length=ys.length/\∀(i:Nat) x,xs[i]?=sO x->∃y,ys[i]?=sO y/\f x=sO y:=by
 intro xs
 induction xs with
 |nil=>
  intro ys e;cases e;exact⟨rfl,λi x h=>gG h⟩
 |cons x xs b=>
  intro ys e;show fQ y n m e;show dI r j g m;subst g;obtain⟨l,q⟩:=b j;refine⟨oO l,aP i z a⟩;cases i with
  |zero=>show Ai a;exact⟨y,aY,n⟩
  |succ i=>simp at a;obtain⟨u,d,c⟩:=q i z a;exact⟨u,oO d,c⟩
theorem YE:∀{a b:aH},a.length≠b.length->K5 a b=false
 |[],[],h=>nE h
 |[],_::_,_=>TV
 |_::_,[],_=>TV
 |x::xs,y::ys,h=>by
  unfold K5;rw[YE (a:=xs) (b:=ys) (l6 h),DL]
theorem Y2:∀{a b:aH},a.length=b.length->K5 a b=(List.range a.length).all λj=>match a[j]?,b[j]? with|gA x,sO y=>eqW x y|_,_=>false
 |[],[],_=>TV
 |x::xs,y::ys,h=>by
  have c:=Y2 (a:=xs) (b:=ys) (cD h);unfold K5;rw[c,N6,Oi,ID,List.all_map];simp[Yar]
inductive Kd(K:Nd)(R:Rn)(h:MH)(H:Hp)(n:Nat)(v:V):W->Prop where
 |flat {a:W} (f:QlC v=true) (e:(v=.non/\a=.non)\/(∃b,v=.bl b/\a=.bl b)\/(∃i,v=aL i/\a=aL i)\/∃x,v=aJ x/\a=aJ x):Kd K R h H n v a
 |lst {ad:Addr} {xs:bD} {ws as:aH} (e:v=.ref ad) (q:SqL K H ad xs) (r:gZ) (m:Vi hH ws=sO as):Kd K R h H n v (.lst as)
 |tup {ad:Addr} {xs:bD} {ws as:aH} (e:v=.ref ad) (q:SqT K H ad xs) (r:gZ) (m:Vi hH ws=sO as):Kd K R h H n v (.tup as)
theorem Yf{K:Nd}{v:V}(g:eV)(r:iB)(e:drf h (n+1) w=sO a):Kd K R h H n v a:=by
 cases w with
 |non=>rw[r.non_eq];cases e;exact .flat rfl (.inl wC)
 |bl b=>rw[r.bl_eq];cases e;exact .flat rfl (.inr (.inl (zl2 b)))
 |int i=>rw[r.int_eq];cases e;exact .flat rfl (.inr (.inr (.inl (zl2 i))))
 |str x=>rw[r.str_eq];cases e;exact .flat rfl (.inr (.inr (.inr (zl2 x))))
 |tup l=>
  obtain⟨ad,j,f,q,c⟩:=g.tupAt r;show vC d;exact .tup f q c m
 |lst l=>
  obtain⟨ad,j,f,q,c⟩:=g.lstAt r;show vC d;exact .lst f (sI q) c m
 |frz l=>
  obtain⟨ad,j,f,q,c⟩:=g.frzAt r;show vC d;exact .lst f q c m
 |ref k=>
  simp only[drf]at e;split at e
  ·rename_i l o;show vC d;obtain⟨_,f,j,q,c⟩:=g.refAt r o;exact .lst f (sI q) c m
  ·cases e
 |ty _=>cases e
section
variable{X:Cx}{pins:bP}{σ:L2.St}{H:Hp}{s:Shared}{R:Rn}{h:MH}
theorem W3{K:Nd}(r:∀p o v a b,nU R p->nU R o->hV p=sO a->hV o=sO b->a=b) :
  ∀{d c:aH} {xs:bD} {a b:aH},Rws K R d xs->Rws K R c xs->Vi hH d=sO a->Vi hH c=sO b->a=b
 |[],c,xs,a,b,e,r2,g,f=>by
  show lR e;cases c with
  |nil=>show oS g f;rfl
  |cons w ws=>show C8 r2;obtain⟨_,_,z,_⟩:=r2;cases z
 | w::d,c,xs,a,b,e,r2,g,f=>by
  show lN e v x E D;cases c with
  |nil=>show PK r2;cases r2
  |cons A c=>
   show C8 r2;obtain⟨_,_,z,C,B⟩:=r2;cases z;show fQ y J I g;show dI L G F I;show fQ u m l f;show dI t j i l;subst F i;rw[r w A v y u E C J m,W3 r D B G j]
theorem Wj(I:cQ)(q:za8)(e:zM a):False:=by
 obtain⟨g,_,p,_⟩:=f0 q;obtain⟨d,_,f,_⟩:=eQ e;obtain⟨o,n,j,i,_⟩:=p;obtain⟨l,c,b,_⟩:=f;show bT j c;rw[i]at b;exact absurd b aF
theorem WH(I:cQ)(g:tV):∀(n:Nat) (l j:W) (v:V) (a b:W),gX l v->gX j v->hV l=sO a->hV j=sO b->a=b
 |0,_,_,_,_,_,_,_,e,_=>fN e
 | n+1,l,j,v,a,b,x,r2,y,t=>by
  have u:=WH I g n;cases Yf g x y with
  | flat f z=>
   cases Yf g r2 t with
   |flat A w=>
    rcases z with⟨rfl,rfl⟩|⟨_,rfl,rfl⟩|⟨_,rfl,rfl⟩|⟨_,rfl,rfl⟩<;>rcases w with⟨i,rfl⟩|⟨_,i,rfl⟩|⟨_,i,rfl⟩|⟨_,i,rfl⟩<;>cases i<;>rfl
   |lst e=>show lK e f
   |tup e=>show lK e f
  |lst e q r m=>
   subst e;cases Yf g r2 t with
   |flat f=>cases f
   |lst d c o p=>cases d;have:=I.list_inj q c;subst this;rw[W3 u r o m p]
   |tup d c=>cases d;exact(Wj I q c).elim
  |tup e q r m=>
   subst e;cases Yf g r2 t with
   |flat f=>cases f
   |lst d c=>cases d;exact(Wj I c q).elim
   |tup d c o p=>cases d;have:=I.tuple_inj q c;subst this;rw[W3 u r o m p]
mutual
theorem Qah:∀(n:Nat) (w a:W),hV w=sO a->eqW a a=true
 |0,_,_,e=>fN e
 | n+1,w,a,e=>by
  cases w with
  |non=>show eU e;rfl
  |bl b=>show eU e;simp
  |int i=>show eU e;simp
  |str x=>show eU e;simp
  |tup ws=>show vC c;show SL
  |lst ws=>show vC c;show SL
  |frz ws=>show vC c;show SL
  |ref k=>
   simp only[drf]at e;split at e
   ·rename_i ws d;show vC c;show SL
   ·cases e
  |ty _=>cases e
theorem K0:∀(n:Nat) (ws as:aH),Vi hH ws=sO as->K5 as as=true
 |n,[],_,m=>by cases m;unfold K5;rfl
 |n,w::ws,_,m=>by
  show fQ y h1 d m;show dI a c b d;subst b;unfold K5;rw[Qah n w y h1,K0 n ws a c];rfl
end
theorem Ya(L:∀i g v1 l v r a b,gX i v1->gX g l->h8 v1 v->h8 l r->hV i=sO a->hV g=sO b->EqAt A s v r Pl)
  (z:MW e) (r2:MY d) (v1:xJ f) (l:Vals ys c) (F:Vi hH e=sO as) (E:Vi hH d=sO bs)
  (j:Nat) (h1:j<f.toArray.size) (p:j<c.toArray.size):EqAt A s f.toArray[j] c.toArray[j] (match as[j]?,bs[j]? with|gA x,sO y=>eqW x y|_,_=>false):=by
 show j6 J z I v1;show j6 H r2 G l;rw[Nr]at h1 p;obtain⟨i,o⟩:∃w,e[j]?=sO w:=⟨e[j]'(Np (Np h1 (dX I)) (dX J)),Nl _⟩
 obtain⟨g,m⟩:∃w,d[j]?=sO w:=⟨d[j]'(Np (Np p (dX G)) (dX H)),Nl _⟩
 show fY x N C z o;show fY y M B r2 m;show fY u O D v1 N;obtain⟨t,P,rt⟩:=l.get M;obtain⟨a,S,U⟩:=(Zp F).2 j i o;obtain⟨b,Q,T⟩:=(Zp E).2 j g m;rw[S,Q]
 have Z:f.toArray[j]=u:=by
  have:=O;rw[Nl h1]at this;show iA
 have Y:c.toArray[j]=t:=by
  have:=P;rw[Nl p]at this;show iA
 rw[Z,Y];exact L i g x y u t a b C B D rt U T
theorem Qc2(I:cF p σ)(x:zF)(D:∀i g v1 c m l a b,gX i v1->gX g c->h8 v1 m->h8 c l->hV i=sO a->hV g=sO b->T0 m l)
  {ad z:Addr} (C:SqL X.K H ad xs) (B:BY z) (o:MW e) (r2:MY d) (v:Vi hH e=sO as) (u:Vi hH d=sO bs):RcAt A s zk1 (aC z) (K5 as bs):=by
 obtain⟨f,v1,t,_⟩:=f0 C;obtain⟨w,c,r,_⟩:=f0 B;show j6 O o N v1;show j6 M r2 L c;have J:=pZ v;have G:=pZ u
 by_cases y:zA9
 ·rw[Y2 y];have:=RcAt.lists (A:=A) t.isList r.isList (by rw[Nr,Nr];lia) x (λj F E=>Ya D o r2 v1 c v u j F E);show jb0
 ·rw[YE y];exact RcAt.lists_lengths t.isList r.isList ju4 x
theorem QgB(I:cF t σ)(D:zF)(C:∀m l v1 e p o a b,gX m v1->gX l e->h8 v1 p->h8 e o->hV m=sO a->hV l=sO b->T0 p o)
  {ad i:Addr} (y:SqT X.K H ad xs) (x:zM i) (r:MW g) (r2:MY f) (v:Vi hH g=sO as) (u:Vi hH f=sO bs):RcAt A s zk1 (aC i) (K5 as bs):=by
 obtain⟨d,v1,B,_⟩:=eQ y;obtain⟨c,e,z,_⟩:=eQ x;show j6 O r N v1;show j6 M r2 L e;have J:=pZ v;have G:=pZ u;have:=RcAt.tuples (A:=A) (RT d B) (Hn s i c z) D (λj F E=>Ya C r r2 v1 e v u j F E);show zS8 w
 show zW9 w
theorem QcE(I:cF Y σ)(o:tV):∀(n:Nat) (A:Around),KK->∀(E l:W) (v1 J:V) (M L:Value) (a b:W),gX E v1->gX l J->h8 v1 M->h8 J L->hV E=sO a->hV l=sO b->EqAt A s M L Pl
 |0,_,_,_,_,_,_,_,_,_,_,_,_,_,_,e,_=>fN e
 | n+1,A,hu,E,l,v1,J,M,L,a,b,N,r2,i,g,U,x=>by
  have c:zF:=by exact Nk dZ hu
  have Z:=QcE I o n A.in1 zs1
  have w:∀{ad:Addr} {G:bD},SqL X.K H ad G->∃d:dC,zM7 d:=λq=>by
   obtain⟨d,_,p,_⟩:=f0 q;exact zL9
  have v:∀{ad:Addr} {G:bD},SqT X.K H ad G->∃d:dC,zK0 d:=λq=>by
   obtain⟨d,_,p,_⟩:=eQ q;show kU p
  cases Yf o N U with
  | flat f z=>
   cases Yf o r2 x with
   |flat T D=>
    have:=Qm1 (A:=A) (s:=s) i g f T
    rcases z with⟨rfl,rfl⟩|⟨_,rfl,rfl⟩|⟨_,rfl,rfl⟩|⟨_,rfl,rfl⟩<;>rcases D with⟨rfl,rfl⟩|⟨_,rfl,rfl⟩|⟨_,rfl,rfl⟩|⟨_,rfl,rfl⟩<;>(unfold eqW;exact this)
   |lst e q=>
    show j8 e g d p w q
    show nV z
    ·show eU i;exact EqAt.none_list p c
    ·show eU i;exact EqAt.bool_list _ p c
    ·show aO t i;unfold eqW;exact EqAt.int_list _ t p c
    ·show aO t i;unfold eqW;exact EqAt.str_list _ t p c
   |tup e q=>
    show j8 e g d p v q
    show nV z
    ·show eU i;exact EqAt.none_tuple p c
    ·show eU i;exact EqAt.bool_tuple _ p c
    ·show aO t i;unfold eqW;exact EqAt.int_tuple _ t p c
    ·show aO t i;unfold eqW;exact EqAt.str_tuple _ t p c
  | @lst C _ _ _ e q r m=>
   show j8 e i d p w q;have S:=Yf o r2 x;cases S with
   |flat T D=>
    show nV D
    ·show eU g;exact EqAt.list_none p c
    ·show eU g;exact EqAt.list_bool _ p c
    ·show aO t g;unfold eqW;exact EqAt.list_int _ t p c
    ·show aO t g;unfold eqW;exact EqAt.list_str _ t p c
   |@lst B _ _ _ y u O Q=>
    show lK y g
    by_cases j:C=B
    ·subst j;have:=WH I o (n+1) E l _ _ _ N r2 U x;show jq4
    ·unfold eqW;exact EqAt.of_refs j (Qc2 I c Z q u r O m Q)
   |tup y u=>
    show j8 y g F P v u;unfold eqW;exact EqAt.list_tuple p P c
  | @tup C _ _ _ e q r m=>
   show j8 e i d p v q;have S:=Yf o r2 x;cases S with
   |flat T D=>
    show nV D
    ·show eU g;exact EqAt.tuple_none p c
    ·show eU g;exact EqAt.tuple_bool _ p c
    ·show aO t g;unfold eqW;exact EqAt.tuple_int _ t p c
    ·show aO t g;unfold eqW;exact EqAt.tuple_str _ t p c
   |lst y u=>
    show j8 y g F P w u;unfold eqW;exact EqAt.tuple_list p P c
   |@tup B _ _ _ y u O Q=>
    show lK y g
    by_cases j:C=B
    ·subst j;have:=WH I o (n+1) E l _ _ _ N r2 U x;show jq4
    ·unfold eqW;exact EqAt.of_refs j (QgB I c Z q u r O m Q)
#print "-"
#print "-Mi"
namespace Mi
open L2 PySem.SeqAt
section
variable{X:Cx}{pins:bP}{σ:L2.St}{H:Hp}{s:Shared}{R:Rn}{h:MH}
theorem Qeh(I:cQ)(w:zF)(C:∀i g v1 c m l a b,gX i v1->gX g c->h8 v1 m->h8 c l->hV i=sO a->hV g=sO b->T0 m l)
  {ad y:Addr} (B:SqL X.K H ad xs) (z:BY y) (o:MW e) (r2:MY d) (u:Vi hH e=sO as) (t:Vi hH d=sO bs):RcNeAt A s zk1 (aC y) (!K5 as bs):=by
 obtain⟨f,v1,r,_⟩:=f0 B;obtain⟨v,c,p,_⟩:=f0 z;show j6 N o M v1;show j6 L r2 J c;have G:=pZ u;have F:=pZ t
 by_cases x:zA9
 ·rw[Y2 x];have:=RcNeAt.lists (A:=A) r.isList p.isList (by rw[Nr,Nr];lia) w (λj E D=>Ya C o r2 v1 c u t j E D);show jb0
 ·rw[YE x];exact RcNeAt.lists_lengths r.isList p.isList ju4 w
theorem Qgj(I:cQ)(C:zF)(B:∀m l v1 e p o a b,gX m v1->gX l e->h8 v1 p->h8 e o->hV m=sO a->hV l=sO b->T0 p o)
  {ad i:Addr} (x:SqT X.K H ad xs) (w:zM i) (r:MW g) (r2:MY f) (u:Vi hH g=sO as) (t:Vi hH f=sO bs):RcNeAt A s zk1 (aC i) (!K5 as bs):=by
 obtain⟨d,v1,z,_⟩:=eQ x;obtain⟨c,e,y,_⟩:=eQ w;show j6 N r M v1;show j6 L r2 J e;have G:=pZ u;have F:=pZ t;have:=RcNeAt.tuples (A:=A) (RT d z) (Hn s i c y) C (λj E D=>Ya B r r2 v1 e u t j E D);show zS8 v
 show zW9 v
theorem QnY(I:cQ)(x:tV)(n:Nat)(A:Around)(Z:KK)(M L:W)(v1 N:V)(P O:Value)(a b:W)(Y:gX M v1)(r2:gX L N)(j:h8 v1 P)(c:h8 N O)(T:hV M=sO a)(G:hV L=sO b):RcAt A s P O Pl:=by
 cases n with
 |zero=>cases T
 | succ n=>
  have d:zF:=by exact Nk dZ Z
  have Q:=QcE I x n A.in1 zs1
  have u:∀{ad:Addr} {B:bD},SqL X.K H ad B->∃i:dC,zM7 i:=λq=>by
   obtain⟨i,_,p,_⟩:=f0 q;exact zL9
  have o:∀{ad:Addr} {B:bD},SqT X.K H ad B->∃i:dC,zK0 i:=λq=>by
   obtain⟨i,_,p,_⟩:=eQ q;show kU p
  cases Yf x Y T with
  | flat f z=>
   cases Cr with
   | flat S w=>
    rcases z with⟨rfl,rfl⟩|⟨_,rfl,rfl⟩|⟨_,rfl,rfl⟩|⟨_,rfl,rfl⟩<;>rcases w with⟨rfl,rfl⟩|⟨_,rfl,rfl⟩|⟨_,rfl,rfl⟩|⟨_,rfl,rfl⟩<;>first|(show aO U j)|cases j
    ·first|(show aO g c)|cases c
     unfold eqW;exact RcAt.none_none
    ·first|(show aO g c)|cases c
     unfold eqW;exact RcAt.none_bool _
    ·first|(show aO g c)|cases c
     unfold eqW;exact RcAt.none_int _ _
    ·first|(show aO g c)|cases c
     unfold eqW;exact RcAt.none_str _ _
    ·first|(show aO g c)|cases c
     unfold eqW;exact RcAt.bool_none _
    ·first|(show aO g c)|cases c
     unfold eqW;exact RcAt.bool_bool _ _
    ·first|(show aO g c)|cases c
     unfold eqW;exact RcAt.bool_int _ _ _
    ·first|(show aO g c)|cases c
     unfold eqW;exact RcAt.bool_str _ _ _
    ·first|(show aO g c)|cases c
     unfold eqW;exact RcAt.int_none _ _
    ·first|(show aO g c)|cases c
     unfold eqW;exact RcAt.int_bool _ _ _
    ·first|(show aO g c)|cases c
     unfold eqW;exact RcAt.int_int _ _ _ _
    ·first|(show aO g c)|cases c
     unfold eqW;exact RcAt.int_str _ _ _ _
    ·first|(show aO g c)|cases c
     unfold eqW;exact RcAt.str_none _ _
    ·first|(show aO g c)|cases c
     unfold eqW;exact RcAt.str_bool _ _ _
    ·first|(show aO g c)|cases c
     unfold eqW;exact RcAt.str_int _ _ _ _
    ·first|(show aO g c)|cases c
     unfold eqW;exact RcAt.str_str _ _ _ _
   |lst e q=>
    show j8 e c i p u q
    show nV z
    ·show eU j;exact RcAt.none_list p d
    ·show eU j;exact RcAt.bool_list _ p d
    ·show aO t j;unfold eqW;exact RcAt.int_list _ t p d
    ·show aO t j;unfold eqW;exact RcAt.str_list _ t p d
   |tup e q=>
    show j8 e c i p o q
    show nV z
    ·show eU j;exact RcAt.none_tuple p d
    ·show eU j;exact RcAt.bool_tuple _ p d
    ·show aO t j;unfold eqW;exact RcAt.int_tuple _ t p d
    ·show aO t j;unfold eqW;exact RcAt.str_tuple _ t p d
  | @lst J _ _ _ e q r m=>
   show j8 e j i p u q;have F:=Cr;cases F with
   |flat S w=>
    show nV w
    ·show eU c;exact RcAt.list_none p d
    ·show eU c;exact RcAt.list_bool _ p d
    ·show aO t c;unfold eqW;exact RcAt.list_int _ t p d
    ·show aO t c;unfold eqW;exact RcAt.list_str _ t p d
   |tup v l=>
    show j8 v c y D o l;unfold eqW;exact RcAt.list_tuple p D d
   |lst v l C E=>
    subst v;show eU c;exact Qc2 I d Q q l r C m E
  | @tup J _ _ _ e q r m=>
   show j8 e j i p o q;have F:=Cr;cases F with
   |flat S w=>
    show nV w
    ·show eU c;exact RcAt.tuple_none p d
    ·show eU c;exact RcAt.tuple_bool _ p d
    ·show aO t c;unfold eqW;exact RcAt.tuple_int _ t p d
    ·show aO t c;unfold eqW;exact RcAt.tuple_str _ t p d
   |lst v l=>
    show j8 v c y D u l;unfold eqW;exact RcAt.tuple_list p D d
   |tup v l C E=>
    subst v;show eU c;exact QgB I d Q q l r C m E
theorem Qhz(I:cQ)(x:tV)(n:Nat)(A:Around)(Z:KK)(M L:W)(v1 N:V)(P O:Value)(a b:W)(Y:gX M v1)(r2:gX L N)(j:h8 v1 P)(c:h8 N O)(T:hV M=sO a)(G:hV L=sO b):RcNeAt A s P O (!eqW a b):=by
 cases n with
 |zero=>cases T
 | succ n=>
  have d:zF:=by exact Nk dZ Z
  have Q:=QcE I x n A.in1 (by show A6+n<cLine;omega)
  have u:∀{ad:Addr} {B:bD},SqL X.K H ad B->∃i:dC,zM7 i:=λq=>by
   obtain⟨i,_,p,_⟩:=f0 q;exact zL9
  have o:∀{ad:Addr} {B:bD},SqT X.K H ad B->∃i:dC,zK0 i:=λq=>by
   obtain⟨i,_,p,_⟩:=eQ q;show kU p
  cases Yf x Y T with
  | flat f z=>
   cases Cr with
   | flat S w=>
    rcases z with⟨rfl,rfl⟩|⟨_,rfl,rfl⟩|⟨_,rfl,rfl⟩|⟨_,rfl,rfl⟩<;>rcases w with⟨rfl,rfl⟩|⟨_,rfl,rfl⟩|⟨_,rfl,rfl⟩|⟨_,rfl,rfl⟩<;>first|(show aO U j)|cases j
    ·first|(show aO g c)|cases c
     unfold eqW;exact RcNeAt.none_none
    ·first|(show aO g c)|cases c
     unfold eqW;exact RcNeAt.none_bool _
    ·first|(show aO g c)|cases c
     unfold eqW;exact RcNeAt.none_int _ _
    ·first|(show aO g c)|cases c
     unfold eqW;exact RcNeAt.none_str _ _
    ·first|(show aO g c)|cases c
     unfold eqW;exact RcNeAt.bool_none _
    ·first|(show aO g c)|cases c
     unfold eqW;exact RcNeAt.bool_bool _ _
    ·first|(show aO g c)|cases c
     unfold eqW;exact RcNeAt.bool_int _ _ _
    ·first|(show aO g c)|cases c
     unfold eqW;exact RcNeAt.bool_str _ _ _
    ·first|(show aO g c)|cases c
     unfold eqW;exact RcNeAt.int_none _ _
    ·first|(show aO g c)|cases c
     unfold eqW;exact RcNeAt.int_bool _ _ _
    ·first|(show aO g c)|cases c
     unfold eqW;exact RcNeAt.int_int _ _ _ _
    ·first|(show aO g c)|cases c
     unfold eqW;exact RcNeAt.int_str _ _ _ _
    ·first|(show aO g c)|cases c
     unfold eqW;exact RcNeAt.str_none _ _
    ·first|(show aO g c)|cases c
     unfold eqW;exact RcNeAt.str_bool _ _ _
    ·first|(show aO g c)|cases c
     unfold eqW;exact RcNeAt.str_int _ _ _ _
    ·first|(show aO g c)|cases c
     unfold eqW;exact RcNeAt.str_str _ _ _ _
   |lst e q=>
    show j8 e c i p u q
    show nV z
    ·show eU j;exact RcNeAt.none_list p d
    ·show eU j;exact RcNeAt.bool_list _ p d
    ·show aO t j;unfold eqW;exact RcNeAt.int_list _ t p d
    ·show aO t j;unfold eqW;exact RcNeAt.str_list _ t p d
   |tup e q=>
    show j8 e c i p o q
    show nV z
    ·show eU j;exact RcNeAt.none_tuple p d
    ·show eU j;exact RcNeAt.bool_tuple _ p d
    ·show aO t j;unfold eqW;exact RcNeAt.int_tuple _ t p d
    ·show aO t j;unfold eqW;exact RcNeAt.str_tuple _ t p d
  | @lst J _ _ _ e q r m=>
   show j8 e j i p u q;have F:=Cr;cases F with
   |flat S w=>
    show nV w
    ·show eU c;exact RcNeAt.list_none p d
    ·show eU c;exact RcNeAt.list_bool _ p d
    ·show aO t c;unfold eqW;exact RcNeAt.list_int _ t p d
    ·show aO t c;unfold eqW;exact RcNeAt.list_str _ t p d
   |tup v l=>
    show j8 v c y D o l;unfold eqW;exact RcNeAt.list_tuple p D d
   |lst v l C E=>
    subst v;show eU c;exact Qeh I d Q q l r C m E
  | @tup J _ _ _ e q r m=>
   show j8 e j i p o q;have F:=Cr;cases F with
   |flat S w=>
    show nV w
    ·show eU c;exact RcNeAt.tuple_none p d
    ·show eU c;exact RcNeAt.tuple_bool _ p d
    ·show aO t c;unfold eqW;exact RcNeAt.tuple_int _ t p d
    ·show aO t c;unfold eqW;exact RcNeAt.tuple_str _ t p d
   |lst v l=>
    show j8 v c y D u l;unfold eqW;exact RcNeAt.tuple_list p D d
   |tup v l C E=>
    subst v;show eU c;exact Qgj I d Q q l r C m E
#print "-"
noncomputable def wEq(a b:W)(h:MH):bJ:=(drf h 40 a).bind λx=>(drf h 40 b).map λy=>(.bl (eqW x y),h)
noncomputable def wNe(a b:W)(h:MH):bJ:=(drf h 40 a).bind λx=>(drf h 40 b).map λy=>(.bl (!eqW x y),h)
theorem Qh{K:Nd}:OpM K (F2 K f) f:=λ_ _ _ _ q=>q
section
variable{X:Cx}
theorem QW(l:vN):OpR X (compareOp .Eq) (F2 X.K wEq):=by
 intro d s z H x y v u Q I g f q;obtain⟨R,h,a,b,w,B,c,j,i,e,k⟩:=q;show fQ t p o e;show dI r n m o;cases m;exact QnY I c 40 X.A (EG (DJ aA _) l) a b x y v u t r j i g f p n _ _ _ _ ⟨.bl _,H,I,rfl,k R H _ c9 c jC⟩
theorem K1(l:vN):OpR X (compareOp .NotEq) (F2 X.K wNe):=by
 intro d s z H x y v u Q I g f q;obtain⟨R,h,a,b,w,B,c,j,i,e,k⟩:=q;show fQ t p o e;show dI r n m o;cases m;exact Qhz I c 40 X.A (EG (DJ aA _) l) a b x y v u t r j i g f p n _ _ _ _ ⟨.bl _,H,I,rfl,k R H _ c9 c jC⟩
noncomputable def inW(x:W)(xs:aH):Bool:=xs.any λy=>eqW y x
noncomputable def wIn(neg:Bool)(a b:W)(h:MH):bJ:=match b with
 |mL d=>(drf h 40 a).bind λx=>(Vi n9 d).map λc=>(.bl (RY c),h)
 |b=>(lsW h b).bind λd=>(drf h 40 a).bind λx=>(Vi n9 d).map λc=>(.bl (RY c),h)
open Classical in
noncomputable def Qel(K:Nd)(R:Rn)(h:MH)(x:W)(u:Value):Bool:=decide (∃w v a,iB/\dJ v/\drf h 40 w=sO a/\eqW a x=true)
open Classical in
theorem Qb4(I:cF c σ)(i:tV)(r:gX w v)(t:dJ v)(e:drf h 40 w=sO a):Qel X.K R h x u=eqW a x:=by
 unfold Qel
 by_cases q:eqW a x=true
 ·rw[q];exact decide_eq_true ⟨w,v,a,r,t,e,q⟩
 ·have b:eqW a x=false:=cL q
  rw[b];refine decide_eq_false (fX d);obtain⟨f,n,m,j,g,l,z⟩:=d;have:=t.inj g;subst this;rw[WH I i 40 w f v a m r j e l,z]at b;cases b
theorem Qci(I:cF b σ)(a:tV):∀{ws as:aH} {xs:bD} {us:aZ},Rws X.K R ws xs->lC->Vi n9 ws=sO as->us.any (Qel X.K R h x)=inW x as
 |[],_,_,_,r,t,m=>by
  show lR r;show oS t m;rfl
 | w::ws,_,_,_,r,t,m=>by
  show lN r v d g r2;cases t with
  |cons f e=>
   show fQ y n l m;show dI o j i l;subst i;have c:=Qci I a (x:=x) r2 e j;unfold inW at c ⊢;rw[Dk,Dk,Qb4 I a g f n,c]
theorem YJ(I:cF j σ)(g:tV)(F:A.units+40<cLine)(z:gX a v)(p:dJ v)(G:drf h 40 a=sO x) 
  (r:Rws X.K R ws xs) (t:lC) (m:Vi n9 ws=sO as):∀y∈us,EqAt A s y u (Qel X.K R h x y):=by
 intro y D;obtain⟨i,l,e⟩:=List.mem_iff_getElem.mp D;show j6 C r B t;obtain⟨w,hw⟩:∃w,ws[i]?=sO w:=⟨ws[i]'(Np (Np l (dX B)) (dX C)),Nl _⟩
 obtain⟨o,E,d⟩:=r.get hw;show fY J c f t E;rw[Nl l,e]at c;cases c;obtain⟨b,L,n⟩:=(Zp m).2 i w hw;rw[Qb4 I g d f n];exact QcE I g 40 A F w a o v y u b x d z f p n G
theorem YV(Z:vN):OpR X (compareOp .In) (F2 X.K pD):=by
 intro p s S H x y v u Q I N M q;obtain⟨R,h,a,b,w,L,l,P,O,e,k⟩:=q;show jc0 B
 have main:∀g,((drf h 40 a).bind λx=>(Vi n9 g).map λc=>((W.bl (if false then ! E1 else E1),h):W×MH))=cP w L->∃d c,WF/\Vi n9 g=sO c/\w=.bl (inW d c)/\L=h:=λg e=>by
  show fQ d j U e;show dI c i T U;cases T;exact⟨d,c,j,i,rfl,rfl⟩
 have fin:∀{d:W} {c E:aH} {m:bD} {f:aZ},Rws X.K R E m->Vals m f->WF->Vi n9 E=sO c->w=.bl (inW d c)->L=h->EP X p S Q (.bool (f.toArray.any Bo)) s:=λ{d c E m f} r t ea em C D=>by
  subst C D;rw[YaE,Qci I l r t em];exact⟨.bl _,H,I,rfl,k R H _ c9 l jC⟩
 unfold wIn at e;split at e
 ·rename_i g;obtain⟨d,c,j,i,C,D⟩:=main g e;show p4 m F o l O;cases M;obtain⟨f,n,G,_⟩:=eQ F;exact in_tupleAt Bo (RT f G) (λz J=>YJ I l B P N j o n i z (cD J)) Tn
 ·show lW g Y;obtain⟨d,c,j,i,C,D⟩:=main g e;show qL m F o l O Y;cases M;obtain⟨f,n,G,_⟩:=f0 F;exact in_listAt Bo G.isList (λz J=>YJ I l B P N j o n i z (cD J)) Tn
theorem QeO(Z:vN):OpR X zB0 (F2 X.K (wIn true)):=by
 intro p s S H x y v u Q I N M q;obtain⟨R,h,a,b,w,L,l,P,O,e,k⟩:=q;have B:X.A.in1.units+40<cLine:=by show zg0+40<cLine;omega
 have main:∀g,((drf h 40 a).bind λx=>(Vi n9 g).map λc=>((W.bl (if true then ! E1 else E1),h):W×MH))=cP w L->∃d c,WF/\Vi n9 g=sO c/\w=.bl (!inW d c)/\L=h:=λg e=>by
  show fQ d j U e;show dI c i T U;cases T;exact⟨d,c,j,i,rfl,rfl⟩
 have fin:∀{d:W} {c E:aH} {m:bD} {f:aZ},Rws X.K R E m->Vals m f->WF->Vi n9 E=sO c->w=.bl (!inW d c)->L=h->EP X p S Q (.bool (!f.toArray.any Bo)) s:=λ{d c E m f} r t ea em C D=>by
  subst C D;rw[YaE,Qci I l r t em];exact⟨.bl _,H,I,rfl,k R H _ c9 l jC⟩
 unfold wIn at e;split at e
 ·rename_i g;obtain⟨d,c,j,i,C,D⟩:=main g e;show p4 m F o l O;cases M;obtain⟨f,n,G,_⟩:=eQ F;exact notIn_tupleAt Bo (RT f G) (λz J=>YJ I l B P N j o n i z (cD J)) Tn
 ·show lW g Y;obtain⟨d,c,j,i,C,D⟩:=main g e;show qL m F o l O Y;cases M;obtain⟨f,n,G,_⟩:=f0 F;exact notIn_listAt Bo G.isList (λz J=>YJ I l B P N j o n i z (cD J)) Tn
#print "-"
noncomputable def Zd(a b:W)(h:MH):bJ:=match a,b with
 |aL i,aL j=>Ty
 |aJ x,aJ y=>if yO<=sizeLine then zE4 else nO
 |mL d,mL c=>if S7 then sO (.tup (d++c),h)else nO
 |a,b=>(loW h a).bind λd=>(loW h b).bind λc=>if S7 then sO (.lst (d++c),h)else nO
noncomputable def Qig(a b:W)(h:MH):bJ:=match a,b with|aL i,aL j=>sO (.int (i-j),h)|_,_=>nO
noncomputable def Qo5(a b:W)(h:MH):bJ:=match a,b with|aL i,aL j=>if zp9 then TL else nO|_,_=>nO
noncomputable def V8(a b:W)(h:MH):bJ:=match a,b with|aL i,aL j=>if 0<j/\Mv then zG4 else nO|_,_=>nO
noncomputable def JL(a b:W)(h:MH):bJ:=match a,b with|aL i,aL j=>if 0<j then zG5 else nO|_,_=>nO
noncomputable def wLt(a b:W)(h:MH):bJ:=match a,b with|aL i,aL j=>sO (BK i j,h)|aJ x,aJ y=>sO (.bl (decide (Tf x y)),h)|_,_=>nO
noncomputable def wLe(a b:W)(h:MH):bJ:=match a,b with|aL i,aL j=>sO (zA3,h)|aJ x,aJ y=>sO (.bl (!decide (Tf y x)),h)|_,_=>nO
noncomputable def wGt(a b:W)(h:MH):bJ:=match a,b with|aL i,aL j=>sO (BK j i,h)|_,_=>nO
noncomputable def Yi:rX
 |.non=>true
 |_=>false
noncomputable def wIs(a b:W)(h:MH):bJ:=match b with
 |.non=>sO (.bl (Yi a),h)
 |.bl y=>match a with|.bl x=>MZ x y|_=>nO
 |_=>nO
theorem Qnz{K:Nd}(r:nU R a):decide (v=.non)=Yi a:=by
 cases a with
 |non=>rw[r.non_eq];rfl
 |bl _=>rw[r.bl_eq];rfl
 |int _=>rw[r.int_eq];rfl
 |str _=>rw[r.str_eq];rfl
 |ty _=>rw[r.ty_eq];rfl
 |tup _=>show fG r;show zC7
 |lst _=>show fG r;show zC7
 |frz _=>show fG r;show zC7
 |ref _=>show fG r;obtain⟨_,rfl⟩:=r;rfl
section
variable{X:Cx}
noncomputable def QpT(K:Nd):R2:=λx y H Q=>∃a b c d,x=aG a/\y=aG b/\SqT K H a c/\SqT K H b d/\c.length+d.length<=sizeLine /\
 (c=[]->Q (aC b) H)/\(c≠[]->d=[]->Q (aC a) H)/\(c≠[]->d≠[]->∀p,mG->Q (aC p) (upd H p (.tup (c++d))))
theorem op_catA:OpR X yV (QpT X.K):=by
 intro c s B H x y v u Q I p o h;obtain⟨a,b,m,C,rfl,rfl,z,w,P,J,G,F⟩:=h
 by_cases i:m=[]
 ·show lK i p;cases o;obtain⟨O,E,M,_⟩:=eQ z;obtain⟨d,S,L,_⟩:=eQ w;cases E;obtain⟨⟨cls,R,data,D⟩,r,t,n,hd⟩:=id M;obtain⟨⟨A,l,data2,j⟩,e,g,N,f⟩:=id L;simp only at t hd g f;subst t hd g f
  exact Yae (gH r) (gH e) LH OR Iy Ik (FW _ _)
   (tuple_addW0 a b #[] d.toArray n N R l D j aF) ⟨r,e,⟨aG b,H,I,rfl,J rfl⟩⟩
 ·exact QlJ c s B H _ _ v u Q I p o ⟨a,b,m,C,rfl,rfl,z,w,i,P,G i,F i⟩
theorem QfJ:OpR X zE1 (λx y H Q=>∃i j,x=aJ i/\y=aJ j/\Q (.bl (!decide (Tf j i))) H):=by
 intro a s d H x y v u Q I c b h;show Hz;show aO t c;show aO e b;exact PySem.P.le_str ⟨.bl _,H,I,rfl,q⟩
theorem Qou:OpR X zH3 (λx y H Q=>∃i j,x=.bl i/\y=.bl j/\Q (.bl (i==j)) H):=by
 intro a s d H x y v u Q I c b h;show Hz;show oS c b;exact is_bool ⟨.bl _,H,I,rfl,q⟩
theorem Qu:OpR X yV (F2 X.K Zd):=by
 intro m s O H x y v u Q I S P q;refine(op_add.or jh6) m s O H x y v u Q I S P ?_;obtain⟨R,h,a,b,w,T,c,i,g,e,k⟩:=q;unfold Zd at e;split at e
 ·cases e;exact .inl ⟨_,_,i.int_eq,g.int_eq,k R H _ c9 c kM⟩
 ·split at e
  ·show eF E e;exact .inr (.inl ⟨_,_,i.str_eq,g.str_eq,E,k R H _ c9 c wN⟩)
  ·cases e
 ·split at e
  ·show C' L J E;obtain⟨ad,t,o,C,l⟩:=c.tupAt i;obtain⟨F,r,n,B,j⟩:=c.tupAt g;show j6 N l M j;refine .inr (.inr (.inl ⟨ad,F,t,r,o,n,C,B,aU,fX z,λ_ z=>?_,λ_ _ p D=>?_⟩))
   ·subst z;have:L=[]:=NT.mp N;subst this;exact k R H _ c9 c (n▸g)
   ·subst z;have:J=[]:=NT.mp M;subst this;rw[E2]at k;exact k R H _ c9 c (o▸i)
   ·obtain⟨G,A,f,d⟩:=c.tup D (Rws.append l j);exact k G _ _ A f d
  ·cases e
 ·show lW L o;show lW J n;split at e
  ·show eF E e;obtain⟨ad,t,f1,C,l⟩:=c.loAt i o;obtain⟨F,r,f2,B,j⟩:=c.loAt g n;show j6 N l M j;refine .inr (.inr (.inr ⟨ad,F,t,r,f1,f2,C,B,fZ,bQ p D⟩));obtain⟨G,A,f,d⟩:=c.lstI D (Rws.append l j);exact k G _ _ A f d
  ·cases e
theorem Qb7:OpR X (binaryOp .Sub) (F2 X.K Qig):=by
 intro c s d H x y v u Q I g f q;refine QoS c s d H x y v u Q I g f ?_;obtain⟨R,h,a,b,w,m,i,l,j,e,k⟩:=q;unfold Qig at e;split at e
 ·cases e;exact⟨_,_,l.int_eq,j.int_eq,k R H _ c9 i kM⟩
 ·cases e
theorem Qj9:OpR X HZ (F2 X.K Qo5):=by
 intro c s d H x y v u Q I g f q;refine Qpl c s d H x y v u Q I g f ?_;obtain⟨R,h,a,b,w,n,i,l,j,e,k⟩:=q;unfold Qo5 at e;split at e
 ·split at e
  ·show eF m e;exact⟨_,_,l.int_eq,j.int_eq,m,k R H _ c9 i kM⟩
  ·cases e
 ·cases e
theorem Zy:OpR X (binaryOp .FloorDiv) (F2 X.K V8):=by
 intro c s d H x y v u Q I g f q;refine Qll c s d H x y v u Q I g f ?_;obtain⟨R,h,a,b,w,n,i,l,j,e,k⟩:=q;unfold V8 at e;split at e
 ·split at e
  ·show eF m e;exact⟨_,_,l.int_eq,j.int_eq,m,k R H _ c9 i kM⟩
  ·cases e
 ·cases e
theorem QT:OpR X (binaryOp .Mod) (F2 X.K JL):=by
 intro c s d H x y v u Q I g f q;refine Qpd c s d H x y v u Q I g f ?_;obtain⟨R,h,a,b,w,n,i,l,j,e,k⟩:=q;unfold JL at e;split at e
 ·split at e
  ·show eF m e;exact⟨_,_,l.int_eq,j.int_eq,m,k R H _ c9 i kM⟩
  ·cases e
 ·cases e
theorem U9:OpR X zH2 (F2 X.K wLt):=by
 intro c s i H x y v u Q I l j q;refine(op_lt.or Qf0) c s i H x y v u Q I l j ?_;obtain⟨R,h,a,b,w,m,d,g,f,e,k⟩:=q;unfold wLt at e;split at e
 ·cases e;exact .inl ⟨_,_,g.int_eq,f.int_eq,k R H _ c9 d jC⟩
 ·cases e;exact .inr ⟨_,_,g.str_eq,f.str_eq,k R H _ c9 d jC⟩
 ·cases e
theorem YQ:OpR X zE1 (F2 X.K wLe):=by
 intro c s i H x y v u Q I l j q;refine(op_le.or QfJ) c s i H x y v u Q I l j ?_;obtain⟨R,h,a,b,w,m,d,g,f,e,k⟩:=q;unfold wLe at e;split at e
 ·cases e;exact .inl ⟨_,_,g.int_eq,f.int_eq,k R H _ c9 d jC⟩
 ·cases e;exact .inr ⟨_,_,g.str_eq,f.str_eq,k R H _ c9 d jC⟩
 ·cases e
theorem Kx:OpR X (compareOp .Gt) (F2 X.K wGt):=by
 intro c s d H x y v u Q I g f q;refine Qql c s d H x y v u Q I g f ?_;obtain⟨R,h,a,b,w,m,i,l,j,e,k⟩:=q;unfold wGt at e;split at e
 ·cases e;exact⟨_,_,l.int_eq,j.int_eq,k R H _ c9 i jC⟩
 ·cases e
theorem Qcw:OpR X zH3 (F2 X.K wIs):=by
 intro c s i H x y v u Q I l j q;refine(op_isN.or Qou) c s i H x y v u Q I l j ?_;obtain⟨R,h,a,b,w,m,d,g,f,e,k⟩:=q;unfold wIs at e;split at e
 ·cases e;exact .inl ⟨f.non_eq,by rw[Qnz g];exact k R H _ c9 d jC⟩
 ·split at e
  ·cases e;exact .inr ⟨_,_,g.bl_eq,f.bl_eq,k R H _ c9 d jC⟩
  ·cases e
 ·cases e
noncomputable def GM(a:W)(h:MH):bJ:=match a with|aL i=>sO (.int (-i),h)|_=>nO
theorem KR(f:PM X a d):PM X (.UnaryOp .USub a pos) (mUn GM d):=ZZ (Qqg Qo9 f) λi H Q q=>Jf (un1 q) <|by
 rintro x g ⟨R,h,a,w,j,b,c,e,k⟩
 unfold GM at e;split at e
 ·cases e;exact⟨_,c.int_eq,k R g _ c9 b kM⟩
 ·cases e
noncomputable def wIx(a b:W)(h:MH):bJ:=match b with
 |aL i=>match a with
  |mL d=>jy3
  |aJ x=>if lT then(atI x.cps.toList i).map λc=>(.str hG,h)else nO
  |a=>(lsW h a).bind λd=>jy3
 |_=>nO
theorem Qfi{K:Nd}(r:gZ)(e:atI ws i=sO w):∃v,atI xs i=sO v/\iB:=by
 unfold atI at e ⊢;show sK r;show fQ j d c e;show fY v b a r c;exact⟨v,qY d b,a⟩
theorem Ql8:IxR X (F2 X.K wIx):=by
 intro value slice f s z H x y v u Q I D C q E;refine Qnt value slice f s z H x y v u Q I D C ?_ E;obtain⟨R,h,a,b,w,J,d,n,m,e,k⟩:=q;unfold wIx at e;split at e
 ·show wR i e
  ·rename_i A;show dI B j g e;cases g;show p4 l r p d n;obtain⟨v1,t,o⟩:=Qfi p j;exact .inr (.inl ⟨ad,l,i,v1,rfl,m.int_eq,r,t,k R H _ c9 d o⟩)
  ·split at e
   ·rename_i F;show dI c j g e;cases g;exact .inr (.inr ⟨_,i,c,n.str_eq,m.int_eq,F,j,k R H _ c9 d wN⟩)
   ·cases e
  ·show lW A G;show dI B j g e;cases g;show qL l r p d n G;obtain⟨v1,t,o⟩:=Qfi p j;exact .inl ⟨ad,l,i,v1,rfl,m.int_eq,r,t,k R H _ c9 d o⟩
 ·cases e
theorem Qx(i:PM X a f)(h:PM X b e)(g:Qab b:=by intro _ _;rfl):PM X (BJ a b) (Qi wIx f e):=
 ZZ (QoW Ql8 i h g) λ_ _ _ q=>Jf CL λ_ _ d=>Jf d (gL c)
noncomputable def JT(ws:aH)(h:MH):bJ:=match ws with
 |[aJ x]=>if lT then sO (zR x,h)else nO
 |[fA]=>sO Bb
 |[a]=>(lsW h a).map λws=>Bb
 |_=>nO
theorem Qo{K:Nd}:QlS K (Fs K f) f:=λ_ _ _ q=>q
theorem Wb{K:Nd}(r:Rws K R [a] xs):∃v,xs=[v]/\nU R a:=by
 show lN r v d c b;show lR b;exact⟨v,rfl,c⟩
theorem QmO{K:Nd}(r:Rws K R [a,b] xs):∃v u,xs=[v,u]/\nU R a/\Rw K R b u:=by
 show lN r v f e d;show qW u c d;exact⟨v,u,rfl,e,c⟩
theorem QF:CallR X TJ (Fs X.K JT):=by
 intro d s i H a j Q I r q;refine(call_len_seq.or QaH) d s i H a j Q I r ?_;obtain⟨R,h,p,w,t,b,rw,e,k⟩:=q;unfold JT at e;split at e
 ·split at e
  ·rename_i l;show nY e c;exact .inr ⟨_,by rw[c.str_eq],l,k R H _ c9 b kM⟩
  ·cases e
 ·show nY e c;show p4 a g f b c;exact .inl ⟨ad,a,rfl,gY g,by show sK f;exact k R H _ c9 b kM⟩
 ·show dI o n m e;show nY m c;show qL a g f b c n;exact .inl ⟨ad,a,rfl,dU g,by show sK f;exact k R H _ c9 b kM⟩
 ·cases e
noncomputable def J8(ws:aH)(h:MH):bJ:=match ws with
 |[fA]=>sO (fA,h)
 |[a]=>(lsW h a).map λws=>(fA,h)
 |_=>nO
noncomputable def Qjf(ws:aH)(h:MH):bJ:=match ws with
 |[fA]=>sO (eZ,h)
 |[a]=>(lsW h a).map λws=>(eZ,h)
 |_=>nO
theorem ZR:CallR X tH (Fs X.K J8):=by
 intro b s l H a n Q I r q;refine Gr b s l H a n Q I r ?_;obtain⟨R,h,z,w,A,c,rw,e,k⟩:=q;unfold J8 at e;split at e
 ·show nY e d;show p4 a i j c d;exact⟨ad,a,rfl,.inr ⟨i,k R H _ c9 c d⟩⟩
 ·show dI y u t e;show nY t d;show qL a i j c d u;refine⟨ad,a,rfl,.inl ⟨i,bQ p o⟩⟩;obtain⟨x,m,g,f⟩:=c.tup o j;exact k x _ _ m g f
 ·cases e
theorem QdK:CallR X M2 (Fs X.K Qjf):=by
 intro d s o H c t Q I r q;refine Wk d s o H c t Q I r ?_;obtain⟨R,h,z,w,A,f,rw,e,k⟩:=q;unfold Qjf at e;split at e
 ·show nY e j;show p4 c l i f j;refine⟨ad,c,rfl,gY l,bQ p m⟩;obtain⟨n,g,b,a⟩:=f.lstI m i;exact k n _ _ g b a
 ·show dI y x u e;show nY u j;show qL c l i f j x;refine⟨ad,c,rfl,dU l,bQ p m⟩;obtain⟨n,g,b,a⟩:=f.lstI m i;exact k n _ _ g b a
 ·cases e
noncomputable def Qji:aH->Option (List Bool)
 |[]=>sO []
 |.bl b::r=>(Qji r).map (b::·)
 |_=>nO
noncomputable def Qap(ws:aH)(h:MH):bJ:=match ws with
 |[a]=>(lsW h a).bind λws=>(Qji ws).map λbs=>(.bl (bs.all id),h)
 |_=>nO
theorem QkT{K:Nd}:∀{ws:aH} {xs:bD} {bs:List Bool},gZ->Qji ws=sO bs->xs=bs.map V.bl:=by
 intro ws
 induction ws with
 |nil=>
  intro xs bs r e;show lR r;cases e;rfl
 |cons w ws c=>
  intro xs bs r e;show lN r v g b a;cases w<;>simp only[Qji]at e<;>first|cases e|skip
  show dI h f d e;subst d;rw[b.bl_eq,c a f];rfl
theorem Qhi:∀{bs:List Bool} {us:aZ},Vals (bs.map V.bl) us->us=bs.map Value.bool:=by
 intro bs
 induction bs with
 |nil=>
  intro us r;cases r;rfl
 |cons b bs d=>
  intro us r;cases r with
  |cons c a=>cases c;rw[d a];rfl
theorem QiN:∀bs:List Bool,(List.range bs.length).all (λi=>WP)=bs.all id:=by
 intro bs
 induction bs with
 |nil=>
  exact rfl
 |cons b bs a=>
  rw[N6,Oi,ID,List.all_map,ID,<-a];rfl
theorem Ku(U:gR):CallR X (.builtin "all") (Fs X.K Qap):=by
 intro y s σ H B us Q I r q;obtain⟨R,h,ws,w,g,t,rw,e,k⟩:=q;unfold Qap at e;split at e
 ·rename_i a;obtain⟨ys,e1,e⟩:=eH e;obtain⟨bs,e2,m⟩:=mJ e;show nY m J;show qL B L G t J e1;show oW F r;obtain⟨M,D,j,hz⟩:=f0 L;have f:=QkT G e2;subst f;have T:=Qhi D;subst T;refine call_all_walk (Lr j.isList ?_)
  have l:ad≠s.heap.objs.size:=λz=>by
   obtain⟨o,n,Z,_⟩:=j;exact sz Z cO z
  refine⟨s.heap.objs.size,_,_,_,_,_,λi=>WP,rfl,Walks.list (A:=X.A.in1) (show X.A.in1.handled=nO from I.ok.hd U) _ ad l (bs.map Value.bool).toArray,?_,?_,aP g C S⟩
  ·exact⟨⟨_,fM,rfl,rfl⟩,j.isList.at λo e=>k8⟩
  ·intro i v s' Q' E' N O;have d:(bs.map Value.bool)[i]?=sO v:=cL N
   rw[Nx]at d;show l8 b f d;refine Dd ?_;have:WP=b:=by rw[Ec,f];rfl
   exact this▸O
  ·have m:(List.range (bs.map Value.bool).toArray.size).all (λi=>WP)=bs.all id:=by
    rw[Nr,Nz];exact QiN bs
   rw[m];have I0:=I.kept (t':=s.toks) (h':=s.heap.push { cls:=.type "list_iterator",data:=.fields #[.ref ad,CF] }) λb o e=>k8
   have I':=I0.turned (t':=C) (h':=g) (it:=s.heap.objs.size) (λb o f e=>S b o (cD f) e) (I.hok.fresh cO) (λz=>Dc _ (z▸I.lt:s.heap.objs.size<s.heap.objs.size)) (.inr I.sz) (λx c e z=>by
    obtain⟨v,o,Y,_⟩:=rT I x
    exact sz Y cO z) λp P z=>sz (I.pin p P).1 cO z
   exact⟨.bl _,H,I',rfl,k R H _ c9 t jC⟩
 ·cases e
#print "-"
section
variable{prog:Program}{w:World}{A:Around}{E:bI}{s:Shared}
theorem Yp{lo hi:dB}(a:HV t)(g:Th f j i)(pl:IsPart j lo)(l:IsPart i hi)
  (hw:Hv=0/\zs4=items.size) (h:Q (aC t) s):wpAny aX A (getItem (aC t) (aC f)) Q E s:=by
 obtain⟨os,b,d,n⟩:=id g;have e:s.TypeIs (aC f) "slice":=⟨os,b,d⟩
 show ji4
 first|refine Na f6|skip
 refine Na (wpAny_sequenceKey a.typeIs aA ?_)
 refine Na (EO (name:=js1) a.typeIs Ep
  (je0 a))
 show wpAny _ _ (Builtin.Tuple.tupleItemsOf (aC t)>>=_) _ _ s;show jA3 a e;rw[if_pos aA];refine Na (HT.sliceApplied_gen g pl l ?_)
 have c:((((Hv:Nat):Int)==0&&eS==1&&(zs4-Hv)==items.size)=true):=by
  rw[hw.1,hw.2];simp
 show wpAny _ _ (if(((Hv:Nat):Int)==0&&eS==1&&(zs4-Hv)==items.size)=true then _ else _) _ _ s;rw[bW c];refine Na (m:=Builtin.Tuple.tupleIsExact _) ?_;unfold Builtin.Tuple.tupleIsExact;refine Na (FX a.typeIs f6);rw[if_pos aA];exact Na (Ii Hw)
#print "-"
noncomputable def Y3(xs:g8)(lo hi:dB):g8:=(xs.drop ju1).take (AQ-B3)
noncomputable def wSl(a:W)(lo hi:dB)(h:MH):bJ:=match a with
 |mL b=>sO (.tup (Y3 b lo hi),h)
 |aJ x=>if lT then sO (.str (Me x),h)else nO
 |a=>(lsW h a).map λb=>(.lst (Y3 b lo hi),h)
theorem Qgy{K:Nd}{ws:aH}(r:gZ)(lo hi:dB):Rws K R zb8 (QhQ xs lo hi):=by
 unfold Y3 QhQ;rw[r.length];exact(r.drop _).take _
theorem Qb9(xs:g8)(lo hi:dB):(Y3 xs lo hi).length<=xs.length:=by
 unfold Y3;rw[EL,D3];exact Ng PJ wZ
theorem Qdv{xs:g8}{lo hi:dB}(h:B3=0/\AQ=xs.length):Y3 xs lo hi=xs:=by
 unfold Y3;rw[h.1,h.2];simp
noncomputable abbrev MOp:=MSt->MH->Option (dB×MH)
noncomputable def tIO(K:Nd)(m:MOp):TO:=λe H Q=>∃R a h o b,eV/\iR R a e/\m a h=cP o b/\∀c d,kW c->Rh K c b d->Q o d
def PMO(X:Cx)(e:zf8)(m:MOp):Prop:=PO X e (tIO X.K m)
noncomputable def Ji:MOp:=λ_ h=>sO (nO,h)
noncomputable def ZW(m:ME):MOp:=λa h=>(m a h).bind λp=>match p.1 with|aL i=>sO (sO i,p.2)|_=>nO
noncomputable def mSl(d:ME)(b c:MOp):ME:=λa h=>(d a h).bind λp=>(b a p.2).bind λq=>(c a q.2).bind λr=>wSl p.1 q.1 r.1 r.2
section
variable{X:Cx}
theorem sl_tupA:SlR X (λx lo hi H Q=>∃a xs,x=aG a/\za9/\((B3=0/\AQ=xs.length)->Q (aC a) H) /\
  (¬(B3=0/\AQ=xs.length)->∀p,mG->Q (aC p) (upd H p (.tup (QhQ xs lo hi))))):=by
 intro b s m H x v o n lo hi t Q I e l g f h;obtain⟨a,xs,rfl,i,w,u⟩:=h
 by_cases hw:B3=0/\AQ=xs.length
 ·cases e;obtain⟨d,r,j,y⟩:=eQ i;have c:d.toArray.size=xs.length:=jn2
  refine jg8;exact Yp j l g f (by rw[c];exact hw) ⟨aG a,H,I,rfl,w hw⟩
 ·exact QoZ b s m H (aC a) v o n lo hi t Q I e l g f ⟨a,xs,rfl,i,hw,u hw⟩
theorem QnJ:SlR X (λx lo hi H Q=>∃z,x=aJ z/\zC1/\Q (.str (Me z)) H):=by
 intro a s m H x v r p lo hi w Q I n c o g h;obtain⟨z,rfl,b,q⟩:=h;show aO t n;refine⟨"str",_,PySem.F.slot_str_getitem.lookup,Ig _ _ _,?_⟩;have fin:∀(e:Tok) (k:Nat),EP X a m Q (.str (Me z) e) { s with toks:=k }:=λe k=>⟨k9,H,gJ,hL e,q⟩
 cases o with
 |none=>
  cases g with
  |none=>exact Fc (l:=nO) (u:=nO) (st:=nO) c rfl RX
  |int j d=>exact Fc (l:=nO) (u:=cP j d) (st:=nO) c rfl RX
 |int i f=>
  cases g with
  |none=>exact Fc (l:=cP i f) (u:=nO) (st:=nO) c rfl RX
  |int j d=>exact Fc (l:=cP i f) (u:=cP j d) (st:=nO) c rfl RX
theorem Zf:PMO X nO Ji:=λa s c H Q I d=>by
 obtain⟨R,b,h,o,g,f,st,e,k⟩:=d;cases e;exact Qmf a s c H Q I (k R H c9 f)
theorem Q3(n:Af):PMO X (sO e) (ZW m):=λa s f H Q I g=>by
 obtain⟨R,b,h,o,x,l,st,t,k⟩:=g;refine Qmj n a s f H Q I ?_;show cX w p r d t;refine⟨R,b,h,w,p,l,st,r,fB R1 u v i c j⟩;cases w<;>simp only at d<;>first|(cases d;exact⟨_,j.int_eq,k R1 u i c⟩)|cases d
theorem Za{lo hi:zf8}{pos L:Pos}(T:PM X a O)(S:PMO X lo M)(hh:PMO X hi N):PM X (.Subscript a (.Slice lo hi nO L) pos) (mSl O M N):=
 ZZ (QiK (sl_list.or (sl_tupA.or QnJ)) T S hh) λσ H Q G=>by
  obtain⟨R,f,h,w,h',J,st,e,k⟩:=G;obtain⟨⟨a,D⟩,ea,e2⟩:=eH e;show cX l C Z e3 e2;show cX u U Y d e3;refine⟨R,f,h,a,D,J,st,ea,λR1 H1 x s v I=>⟨R1,f,D,l,C,v,pT s,Z,λR2 H2 r t=>⟨R2,f,C,u,U,t,st.mono (eI s r),Y,fC E F B b⟩⟩⟩;have c:=Rw.mono (eI r B) _ _ I;have j:=k.ext (gD s r B);dsimp only at d;unfold wSl at d;split at d
  ·cases d;show p4 n y m b c;refine .inr (.inl ⟨ad,n,rfl,y,λhw=>?_,λ_ p z=>?_⟩)
   ·rw[Qdv (by rw[m.length];exact hw)]at j;exact j E F _ c9 b c
   ·obtain⟨A,o,i,g⟩:=b.tup z (Qgy m l u);exact j A _ _ o i g
  ·split at d
   ·show eF P d;exact .inr (.inr ⟨_,c.str_eq,P,j E F _ c9 b wN⟩)
   ·cases d
  ·obtain⟨ys,e5,e6⟩:=mJ d;cases e6;show qL n y m b c e5;refine .inl ⟨ad,n,rfl,y,bQ p z⟩;obtain⟨A,o,i,g⟩:=b.lstI z (Qgy m l u);exact j A _ _ o i g
#print "-"
def Qfq(X:Cx)(id:String)(f:W->aH->MH->bJ):Prop:=
 MtR X id (λx d H Q=>∃R h a b w c,tV/\gX a x/\Rws X.K R b d/\f a b h=cP w c/\After X.K R w c Q)
noncomputable def tyW(h:MH)(T:String):rX
 |k9=>T=="str"
 |oQ=>T=="int"
 |.lst _=>Pv
 |.frz _=>Pv
 |aG n=>match h[n]? with|zc5=>Pv|zQ1=>Px|zQ2=>Px|_=>false
 |_=>false
noncomputable def mMt(T:String)(f:W->aH->MH->bJ)(mo:ME)(ms:MA):ME:=λa h=>(mo a h).bind λp=>if tyW p.2 T p.1=true then(ms a p.2).bind λq=>zc7 else nO
theorem Qjs{K:Nd}{x:V}(c:eV)(r:Rw K R a x)(e:tyW h T a=true):tyV K T x H:=by
 cases a with
 |str _=>rw[r.str_eq];exact DI e
 |int _=>rw[r.int_eq];exact DI e
 |lst _=>
  obtain⟨ad,b,rfl,q,_⟩:=c.lstAt r;exact .inl ⟨DI e,b,kB q⟩
 |frz _=>
  obtain⟨ad,b,rfl,q,_⟩:=c.frzAt r;exact .inl ⟨DI e,b,q⟩
 |ref n=>
  simp only[tyW]at e;split at e
  ·rename_i i d;obtain⟨_,rfl,b,f,_⟩:=c.refAt r d;exact .inl ⟨DI e,b,kB f⟩
  ·rename_i kvs d;show fG r;obtain⟨g,f,_⟩:=mB c d;rw[r.2];exact .inr (.inr (.inl ⟨DI e,.inl (iI g f)⟩))
  ·rename_i kvs d;show fG r;obtain⟨g,f,_⟩:=mB c d;rw[r.2];exact .inr (.inr (.inl ⟨DI e,.inr (iI g f)⟩))
  ·cases e
 |_=>cases e
section
variable{X:Cx}{o e:Expr}{es:eE}{mo:ME}{ms:MA}{name:Str}{apos cpos:Pos}{T id:String}{f:W->aH->MH->bJ}
theorem Qnn{X:Cx}{e:Expr}{es:eE}{cpos:Pos}(a:decide (zb2<30)=true)(c:kN)(b:w4) :
  ((backTo cpos (starEach eO X.env)).all ze8&&zn5
   && zT7)=true:=by
 rw[QhG (by unfold noStar at b ⊢;rw[ID,c,b];rfl)];exact a
theorem Jj(C:zd9)(slot:zb1)(p:typeOf l9=RU)(F:Qfq X id f)(E:Py)(G:PMA X eO ms)
  (d:attributeBase o name X.env (iC o)=iX o:=by rfl) (j:decide (zb2<30)=true:=by rfl)
  (c:Hj:=by rfl) (v:kN:=by rfl) (b:w4:=by rfl) :
  PM X (.Call Sg eO [] cpos) (mMt T f mo ms):=
 ZZ (QqZ C slot p F E G d (Qnn j v b) c (Zg v) (VR b)) λM H Q A=>by
  obtain⟨R,g,h,w,I,B,st,e,k⟩:=A;show cX a z J l e;show sZ l
  ·rename_i D;obtain⟨⟨t,y⟩,es,L⟩:=eH l;exact⟨R,g,h,a,z,B,st,J,λR1 P x s i u=>⟨Qjs i u D,R1,g,z,t,y,i,pT s,es,λR2 O N r n m=>⟨R2,y,a,t,w,I,n,Cn r u,m,L,k.ext (eI s r)⟩⟩⟩
  ·cases l
theorem Qgn(s:zd9)(slot:zb1)(j:typeOf l9=RU)(v:Qfq X id f)(u:Py)
  (c:attributeBase o name X.env (iC o)=iX o:=by rfl) (b:Hj:=by rfl):PM X (.Call Sg [] [] cpos) (mMt T f mo Ql):=
 ZZ (Qm7 s slot j v u c b) λB H Q n=>by
  obtain⟨R,i,h,w,y,r,st,e,k⟩:=n;show cX a m z g e;show sZ g
  ·rename_i t;obtain⟨⟨C,D⟩,es,A⟩:=eH g;cases es;exact⟨R,i,h,a,m,r,st,z,λR1 E x p d l=>⟨Qjs d l t,R1,m,a,[],w,y,d,l,Rws.nil,A,k.ext p⟩⟩
  ·cases g
#print "-"
noncomputable def ZI(a:W)(ws:aH)(h:MH):bJ:=match a,ws with
 |aG n,[w]=>match h[n]? with|zT b=>if b.length<sizeLine then sO (.non,h.set n (.lst (b++[w])))else nO|_=>nO
 |_,_=>nO
noncomputable def Gv(a:W)(ws:aH)(h:MH):bJ:=match a,ws with
 |aG n,[w]=>match h[n]? with|zT c=>(loW h w).bind λb=>zV5|_=>nO
 |_,_=>nO
noncomputable def QoR(a:W)(ws:aH)(h:MH):bJ:=match a,ws with
 |aG n,[]=>match h[n]? with|zT b=>(b[b.length-1]?).map λw=>(w,h.set n (.lst b.dropLast))|_=>nO
 |_,_=>nO
section
variable{X:Cx}
theorem Rws.dropLast{K:Nd}(r:kI):Rws K R ws.dropLast vs.dropLast:=by
 rw[Ot,Ot,r.length];exact r.take _
theorem QR:Qfq X "list.append" ZI:=by
 intro b s i H x l v m Q I p r q;refine Qfa b s i H x l v m Q I p r ?_;obtain⟨R,h,a,C,w,E,f,t,c,e,k⟩:=q;unfold ZI at e;split at e
 ·show pI n D e
  ·show pI B u e
   ·show eF z e;show wG d j A g f t u;show qW y o c;refine⟨_,j,y,rfl,rfl,A,oX g z,?_⟩;exact k R _ _ c9 (f.put d ⟨_,rfl,Rws.append g (Rws.cons o Rws.nil)⟩) Rw.non
   ·cases e
  ·cases e
 ·cases e
theorem QdZ:Qfq X "list.extend" Gv:=by
 intro b s j H x o v p Q I t u q;refine Qg4 b s j H x o v p Q I t u ?_;obtain⟨R,h,a,L,w,N,d,z,c,e,k⟩:=q;unfold Gv at e;split at e
 ·show pI n M e
  ·rename_i J A;show lW G E;split at e
   ·show eF B e;show wG f m D i d z A;show qW y r c;obtain⟨F,l,rfl,C,g⟩:=d.loAt r E;refine⟨_,F,m,l,rfl,rfl,D,C,jg1,?_⟩;exact k R _ _ c9 jf0 Rw.non
   ·cases e
  ·cases e
 ·cases e
theorem Qgw:Qfq X "list.pop" QoR:=by
 intro c s i H x l v m Q I p r q;refine Qnc c s i H x l v m Q I p r ?_;obtain⟨R,h,a,E,w,G,g,t,b,e,k⟩:=q;unfold QoR at e;split at e
 ·show wR n e
  ·rename_i D u;show dI F C B e;cases B;show wG f j z d g t u;show lR b;show fY y A o d C;refine⟨_,j,y,rfl,rfl,z,oX d A,?_⟩;exact k R _ _ c9 (g.put f ⟨_,rfl,d.dropLast⟩) o
  ·cases e
 ·cases e
noncomputable def UD:aH->Option C6
 |[]=>sO []
 |aJ x::r=>(UD r).map (x::·)
 |_=>nO
theorem QcK{K:Nd}:∀{ws:aH} {xs:bD} {ys:aD},gZ->UD ws=sO ys->xs=ys.map V.str:=by
 intro ws
 induction ws with
 |nil=>
  intro xs ys r e;show lR r;cases e;rfl
 |cons w ws c=>
  intro xs ys r e;show lN r v g b a;cases w<;>simp only[UD]at e<;>first|cases e|skip
  show dI h f d e;subst d;rw[b.str_eq,c a f];rfl
theorem Gd:∀{ys:aD} {us:aZ},Vals zK1 us->StrsAre us ys:=by
 intro ys
 induction ys with
 |nil=>
  intro us r;cases r;exact .nil
 |cons y ys c=>
  intro us r;cases r with
  |cons b a=>show aO t b;exact .cons y t (c a)
noncomputable def Xp(a:W)(ws:aH)(h:MH):bJ:=match a,ws with
 |aJ x,[mL d]=>(UD d).bind λc=>if(c.map (·.length)).sum+c.length*x.length<=16777216 then jy4 else nO
 |aJ x,[b]=>(lsW h b).bind λd=>(UD d).bind λc=>if(c.map (·.length)).sum+c.length*x.length<=16777216 then jy4 else nO
 |_,_=>nO
theorem X8:Qfq X "str.join" Xp:=by
 intro C s M H x N v P Q I d A q;obtain⟨R,h,a,O,w,S,f,B,c,e,k⟩:=q;unfold Xp at e;split at e
 ·rename_i G F;show lW D z;split at e
  ·show eF r e;show qW y j c;show p4 E n m f j;show oW l A;rw[B.str_eq]at d;show aO t d;obtain⟨p,g,o,_⟩:=eQ n;have:=QcK m z;subst this;exact join_tuple o jA7 r λi J=>⟨k9,H,gJ,hL i,k R H _ c9 f wN⟩
  ·cases e
 ·rename_i G b _;show lW F L;show lW D z;split at e
  ·show eF r e;show qW y j c;show qL E n m f j L;show oW l A;rw[B.str_eq]at d;show aO t d;obtain⟨p,g,o,_⟩:=f0 n;have:=QcK m z;subst this;exact join_list o.isList jA7 r λi J=>⟨k9,H,gJ,hL i,k R H _ c9 f wN⟩
  ·cases e
 ·cases e
noncomputable def QaY(a:W)(ws:aH)(h:MH):bJ:=match a,ws with
 |aJ x,[]=>if x.length<=5592405 then sO (.str zM8,h)else nO
 |_,_=>nO
theorem Qgd:Qfq X "str.upper" QaY:=by
 intro d s l H x m v o Q I c f q;obtain⟨R,h,a,n,w,p,g,i,b,e,k⟩:=q;unfold QaY at e;split at e
 ·split at e
  ·show eF j e;show lR b;cases f;rw[i.str_eq]at c;show aO t c;exact SCL.upper j λ_=>⟨k9,H,gJ,cN,k R H _ c9 g wN⟩
  ·cases e
 ·cases e
#print "-"
noncomputable def Qdu(h:MH):W->Option String
 |.non=>sO "NoneType"
 |.bl _=>sO "bool"
 |oQ=>sO "int"
 |k9=>sO "str"
 |.tup _=>sO "tuple"
 |.lst _=>sO "list"
 |.frz _=>sO "list"
 |aG n=>match h[n]? with|zc5=>sO "list"|zQ1=>sO "dict"|zQ2=>sO "dict"|_=>nO
 |.ty _=>nO
noncomputable def JW(k T:String):Bool:=k==T ||(k=="bool"&&T=="int")
noncomputable def Wn(T:String):Bool:=T=="str" ||T=="int" ||T=="bool" ||Pv ||T=="tuple" ||Px
noncomputable def QcG(ws:aH)(h:MH):bJ:=match ws with
 |[a,.ty T]=>if Wn T=true then(Qdu h a).map λk=>(.bl (JW k T),h)else nO
 |_=>nO
theorem Uk{K:Nd}(c:k="NoneType"\/k="bool"\/k="int"\/k="str"\/k="tuple"\/k="list"\/k="dict")(b:Wn T=true):YaQ K (.type k) wS=sO (JW k T):=by
 have a:T="str"\/T="int"\/T="bool"\/T="list"\/T="tuple"\/T="dict":=by
  unfold Wn at b;simp only[Dn,beq_iff_eq]at b
  rcases b with((((h|h)|h)|h)|h)|h<;>simp[h]
 rcases c with rfl|rfl|rfl|rfl|rfl|rfl|rfl<;>rcases a with rfl|rfl|rfl|rfl|rfl|rfl<;>first|rfl|show rQ
section
variable{X:Cx}
theorem Xb:CallR X Hr (Fs X.K QcG):=by
 intro g s L H Z us Q I r q;obtain⟨R,h,ws,w,h',j,D,e,k⟩:=q;unfold QcG at e;split at e
 ·show pI a T e
  ·rename_i G;show dI N c Y e;cases Y;obtain⟨x,y,rfl,d,O⟩:=QmO D;obtain⟨u,u2,rfl,E,l⟩:=Qaw r;rw[O.ty_eq]at l;cases l;have fin:∀M,EP X g L Q (.bool (JW N T)) { s with toks:=M }:=λM=>⟨.bl _,H,gJ,rfl,k R H _ c9 j jC⟩
   have one:∀{t:String},TyOf X.K H x (.type t)->N=t->(t="NoneType"\/t="bool"\/t="int"\/t="str"\/t="tuple"\/t="list"\/t="dict")->wpAny bZ X.A (call Hr [u,.type T]) (EP X g L Q) X.xe s:=λ{t} ty U S=>by
    subst U;exact QgO I E ty (Uk S G) fin
   cases a with
   |non=>cases c;rw[d.non_eq]at one;exact one .non rfl aF
   |bl b=>cases c;rw[d.bl_eq]at one;exact one pP rfl aF
   |int i=>cases c;rw[d.int_eq]at one;exact one d3 rfl aF
   |str z=>cases c;rw[d.str_eq]at one;exact one (lM z) rfl aF
   |tup C=>
    cases c;obtain⟨ad,B,rfl,m,_⟩:=j.tupAt d;cases E;obtain⟨F,_,p,_⟩:=eQ m;obtain⟨o,f,J,_⟩:=p;exact EK Yad I.kIn ⟨o,f,J⟩ (Uk aF G) i7 fin
   |lst C=>
    cases c;obtain⟨ad,B,rfl,m,_⟩:=j.lstAt d;exact one (.lst m) rfl aF
   |frz C=>
    cases c;obtain⟨ad,B,rfl,m,_⟩:=j.frzAt d;cases E;obtain⟨F,_,p,_⟩:=f0 m;obtain⟨o,n,f,J,_⟩:=p;exact EK Lp I.kIn ⟨o,f,J⟩ (Uk aF G) i7 fin
   |ref n=>
    simp only[Qdu]at c;split at c
    ·show sB C v c;obtain⟨_,rfl,B,f,_⟩:=j.refAt d v;exact one (.lst f) rfl aF
    ·rename_i kvs v;cases c;show fG d;obtain⟨P,f,_⟩:=mB j v;rw[d.2]at one;exact one (.dK f) rfl aF
    ·rename_i kvs v;cases c;show fG d;obtain⟨P,f,_⟩:=mB j v;rw[d.2]at one;exact one (.dT f) rfl aF
    ·cases c
   |ty _=>cases c
  ·cases e
 ·cases e
#print "-"
structure Cal(P:Program)(w:World)(K:Nd)(mg:c')(base:Heap)(k:Nat)(x:Str)(ps:aD)(g:FM):Prop where
 ex:∃(f:Addr) (fd:FuncData),FnOk P w K mg base CX0 k f fd ps (spM K ps.length g)/\mg x=sO (aC f)/\DY K (aC f)=true/\Bi/\∃(oc:Value) (od:dW) (osl:oZ),iF f=jq2
structure DefAt(K:Nd)(mg:c')(x:Str)(st:Stmt)(ps:aD):Prop where
 ex:∃(f:Addr) (fd:FuncData),Fun K x x st f fd/\mg x=sO (aC f)/\Bi
theorem WR{K:Nd}{h:Heap}{x:Str}{st:Stmt}{f:Addr}{i:Value}{kV d pm cd ct:Value}(X:nQ)(G:tG j)
  (a:Bc=sO (sO (aC f))) (l:iF f=sO ⟨i,n,.func (DQ x x Aj pQ jZ .none kV d pm g cd ct),m⟩) (c:La K cd x=true) (k:DY K (aC f)=true)
  (b:∀(kV d pm:Value) (g:dW) (e ct:Value) (us:aZ),zA4->bindArgs (DQ x x Aj pQ jZ .none kV d pm g e ct) MR=pure BW):DefAt K j x st ps:=
 ⟨f,_,Qcv l c k,CG,(Qcv l c k).binds b⟩
structure Glob(K:Nd)(mg:c')(x:Str)(w:W):Prop where
 ex:∃(v:V) (u:Value),mg x=sO u/\dJ v/\∀R,iB
theorem X6{K:Nd}(X:nQ)(G:tG b)(a:Bc=sO (sO rB)):Glob K b x d3:=
 ⟨aL i,_,CG,hL t,λ_=>Rw.int i⟩
noncomputable def Qef:aD->aH:=List.map W.str
theorem Qiv{K:Nd}:∀(ys:aD),Rws K R (Qef ys) zK1:=by
 intro ys
 induction ys with
 |nil=>
  show xI
 |cons y ys a=>
  exact Rws.cons (Rw.str y) (a)
theorem Qe5{a:aZ}{ys:aD}(h:StrsAre a ys):Vals zK1 a:=by
 induction h with
 |nil=>exact .nil
 |cons _ t _ i=>exact .cons (hL t) i
theorem QaD{K:Nd}{h:Heap}{x:Str}{c:Addr}{n:Nat}(X:nQ)(G:tG d)(a:Bc=sO (sO (aC c)))
  (l:iF c=sO ⟨jO,dd,.seq b n,f⟩) (hz:zH0) (e:StrsAre b.toList ys):Glob K d x (.tup (Qef ys)):=
 ⟨aG c,_,CG,rfl,λR=>by
  unfold Rw
  exact⟨c,_,rfl,.inr ⟨_,b,n,l,rfl,rfl,hz,Qe5 e⟩,Qiv ys⟩⟩
section
variable{X:Cx}{k n:Nat}{g:FM}{x:Str}{ps:aD}{p pos:Pos}{e:Expr}{es:eE}{ms:MA}
theorem Qt(C:Cal X.prog X.w X.K X.mg X.base k x ps g)(c:Cc)(j:jI)(o:PMA X eO ms)(d:ps.length=n:=by rfl)
  (b:gB:=by decide) (l:kN:=by rfl) (a:w4:=by rfl) :
  PM X xY (QD n g ms):=by
 obtain⟨f,fd,F,h,i,m,_⟩:=C.ex;subst d;exact Qlo F c j h i m QqR o b l a
theorem Vp(C:Glob X.K X.mg x w)(b:jI)(hd:gB:=by decide):PM X mX xN:=by
 obtain⟨v,u,a,r,rw⟩:=C.ex;exact QkW b a r rw hd
theorem QaA(d:jI)(c:mH=nO)(a:qS=sO wS)(b:qR:=by decide)(hd:gB:=by decide):PM X mX (mC (.ty T)):=
 QkJ d c a (v:=.ty T) rfl (λ_=>Rw.ty _) b hd
#print "-"
section
variable{P:Program}{w:World}{K:Nd}{mg:c'}{base:Heap}
theorem Q4{st:Stmt}(d:DefAt K mg x st ps)(S:FnScope N ps jZ)(hN:zw2)
  (c:∀(f:Addr) (b:Value) (A:Around) (a:fT) (s:Shared) (H:Hp) (E:XK),zo1 x b->QgJ (Qg8 CX0 P w K mg base N x jZ f b A a s H E).nox pQ m) :
  Cal P w K mg base (k+1) x ps (QN more m):=by
 obtain⟨f,fd,F,l,o⟩:=d.ex;obtain⟨i,h,kV,p,pm,r,b,ct,g,e,lk,n⟩:=F.ex;exact⟨f,fd,QqX F S hN (λb A a s H E j=>c f b A a s H E j),l,F.kp,o,i,h,g,lk⟩
theorem Cal.imp(C:Sw g)(h:∀vs H Q E,spM K ps.length g' vs H Q E->spM K ps.length g vs H Q E):Sw g':=by
 obtain⟨f,fd,F,r⟩:=C.ex;exact⟨f,fd,F.imp h,r⟩
theorem Cal.eq(C:Sw g)(h:∀ws a r,ws.length=ps.length->g' ws a=sO r->g ws a=sO r):Sw g':=
 C.imp λ_ _ _ _ z=>by
  obtain⟨R,ws,a,w,f,c,d,b,e,k⟩:=z;exact⟨R,ws,a,w,f,c,d,b,h ws a _ c e,k⟩
#print "-"
theorem QcI{K:Nd}:∀(ns:eX),Rws K R (pK W) (pK V):=by
 intro ns
 induction ns with
 |nil=>
  show xI
 |cons n ns a=>
  exact Rws.cons (Rw.int n) (a)
theorem Qq5{l:PySem.W.OpenLaw}{d:DefRec}{K:Params->Nd}{st:Stmt}{sem:FM}{k:Nat}(y:l.most=sO 63)(B:zz4)(P:zM3)(A:d.name="law")
  (T:∀(w:World) (h:Heap),Y w h->Tx)
  (S:∀(kV c pm:Value) (C:dW) (g ct:Value) (s:Shared) (u:Value),BindsTo s (DQ "law" "law" Aj pQ jZ .none kV c pm C g ct) ⟨[u],[]⟩ [("script",u)])
  (F:∀(w:World) (i:c') (h:Heap),Tx->tG i ->
   DefAt Mt i "law" st u6/\∀base:Heap,(K w.params).In base->zE2 i->Cal l.prog w Mt i base k "law" u6 sem)
  (main:∀ns:eX,zQ3->∃h',sem [.frz (pK W)] []=sO (dM,h')) :
  YaS q t XP Y l.row.toRowW d [] zA6:=by
 refine L2.Qkb (n:=63) (k:=k) (x:="script") (CX:=λ_=>CX0) (sp:=λw=>spM Mt 1 sem) y aA B P T ?_ ?_ λ_ _ _ _ _ z=>z
 ·intro w i fa h Z G b;obtain⟨D,Fn⟩:=F w i h Z G;obtain⟨f,fd,Fu,r,_⟩:=D.ex;rw[A]at b;show bT r b;obtain⟨oc,od,kV,c,pm,C,g,ct,J,e,lk,R⟩:=Fu.ex;refine⟨fd,bQ s u,λbase O N=>?_⟩
  rotate_left
  ·obtain⟨f',X,F',p,_,_,M,L,E,j⟩:=(Fn base O N).ex;show bT r p;rw[lk]at j;cases j;exact F'
  rw[e];exact S kV c pm C g ct s u
 ·intro w H a ns Q hO U;obtain⟨h',e⟩:=main ns Q;refine⟨⟨λ_=>0,0,H,λ_=>nO⟩,[.frz (pK W)],[],dM,h',rfl,⟨rfl,gL z,λn y=>Mx y,λm n r=>Mx r,(λn o z=>gG z),(λ_ _ z=>fN z),zd3,(λ_ _ z=>fN z)⟩,?_,e,λR' H' v _ _ I=>I.bl_eq⟩;refine Rws.cons ?_ Rws.nil;unfold Rw;exact⟨a,_,rfl,U,QcI ns⟩
noncomputable def Qgs(a:Scope):Bool:=a.names.all λy=>y.2 != .cell&&(y.2 != .local ||zC4==nI)
noncomputable def Qqe(N:aD)(xs a:Scope)(cp:lU)(Nb:aD):Bool:=(cp.zip Nb).all λp=>match p.1 with
 |none=>true
 |gA j=>N[j]?==Ax&&(xs.names.lookup p.2==lF ||xs.names.lookup p.2==nM)&&a.names.lookup p.2==nM
noncomputable def QjT(a:Scope)(ks:aD):Bool:=a.names.all λy=>y.2 != .free ||ks.contains y.1
theorem XG{env:Env}:∀{names:List (Str×NameKind)} {x:Str},names.lookup x=nM ->
  (names.map λ(n,k)=>if(AI n)then zM9 else(n,k)).lookup x=lF \/
  (names.map λ(n,k)=>if(AI n)then zM9 else(n,k)).lookup x=nM
 |[],_,h=>gG h
 | (n,k)::r,x,h=>by
  have c:=@XG env r x;rw[NA];dsimp only;cases a:x==n with
  |true=>
   simp only[EF,a]at h;cases h
   by_cases b:(NameKind.free==NameKind.free&&ju5&&Pp n==lF)=true
   ·rw[bW b];exact .inl (by simp[EF,a])
   ·rw[cR b];exact .inr (by simp[EF,a])
  |false=>
   simp only[EF,a]at h
   by_cases b:(AI n)=true
   ·rw[bW b];simp only[EF,a];exact c h
   ·rw[cR b];simp only[EF,a];exact c h
theorem J0{env:Env}:∀{names:List (Str×NameKind)} {x:Str} {b:NameKind},(∀y∈names,zg2)->(b=.cell\/b=.free) ->
  (names.map λ(n,k)=>if(AI n)then zM9 else(n,k)).lookup x=sO b->zE5∈names
 |[],_,_,_,_,h=>gG h
 | (n,k)::r,x,b,d,e,h=>by
  rw[NA]at h;dsimp only at h;have f:=@J0 env r x b (mZ y g d) e;cases c:x==n with
  | true=>
   have:x=n:=DI c;subst this
   by_cases a:(AI x)=true
   ·have:k=.free:=by
     simp only[NL,beq_iff_eq]at a;exact a.1.1
    subst this;exact NG
   ·rw[cR a]at h;simp[EF]at h;subst h
    show iP e z
    ·exact absurd z (d (x,k) NG)
    ·subst z;exact NG
  |false=>
   refine Nt _ (f ?_)
   by_cases a:(AI n)=true
   ·rw[bW a]at h;simpa only[EF,c]using h
   ·rw[cR a]at h;simpa only[EF,c]using h
theorem Qdw{d:yT}(h:d.lookup x=sO c):(x,c)∈d:=by
 induction d with
 |nil=>simp at h
 | cons p r e=>
  show fV n a p;cases b:x==n with
  |true=>
   simp only[EF,b]at h;cases h;rw[DI b];exact NG
  |false=>
   simp only[EF,b]at h;exact Nt _ (e h)
theorem GB{d:yT}(h:x∈d.map (·.1)):∃c,d.lookup x=sO c:=by
 induction d with
 |nil=>simp at h
 | cons p r e=>
  show fV n a p;cases b:x==n with
  |true=>exact⟨a,by simp only[EF,b]⟩
  |false=>
   show C7 h z
   ·dsimp only at z;rw[z,beq_self_eq_true]at b;cases b
   ·obtain⟨c,f⟩:=e z;exact⟨c,by simp only[EF,b];exact f⟩
theorem Ur(g:closureFor d X.env=pure o)(kind:d.kind=.function)(s:Qgs d=true)(v:o.map (·.1)=ks)(n:QjT d ks=true)
  (f:∀p∈o,X.env.cells.lookup p.1=Ax) (hN:X.N=N) (r:X.env.scope=xs) (m:zA8) (w:Qqe N xs d cp Nb=true):BlkOk X d o Nb cp:=by
 have e:∀y∈d.names,zg2:=λy l=>by
  show jg9 s l
 refine⟨g,e,kind,aP y l m,λx c h=>f _ (Qdw h),bQ x h,m,λi j x B A=>?_⟩
 ·show zV0 s l m
  ·exact z
 ·have u:zE5∈d.names:=by
   show kP h
   ·exact J0 e fE h
   ·exact J0 e wM h
  have:=NV.mp n _ u;simp only[Dn,bne_iff_ne,ne_eq,not_true_eq_false,false_or,Ou]at this;exact GB (by rw[v];exact this)
 ·have t:(cp.zip Nb)[i]?=sO (sO j,x):=by rw[DX];show lL B A
  have:=NV.mp w _ (N0 t);simp only[NL,Dn,beq_iff_eq]at this;obtain⟨⟨a,b⟩,c⟩:=this;refine⟨by rw[hN];exact a,?_,?_,XG c⟩
  ·rw[r]
   show kP b
   ·exact .inr (iS b)
   ·exact .inr (.inr b)
  ·unfold Env.kindOf;rw[r];exact b
theorem Z0(kind:a.kind=.function)(l:Qgs a=true)(g:QjT a []=true)(f:zA8)(n:cp.all (·.isNone)=true):BlkOk X a [] Nb cp:=by
 have d:∀y∈a.names,y.2≠.free:=λy e z=>by
  have:=NV.mp g y e;simp[z]at this
 have b:∀y∈a.names,zg2:=λy e=>by
  show jg9 l e
 refine⟨closureFor_none d,b,kind,aP y e f,λx c h=>gG h,bQ x h,f,λi j x o p=>?_⟩
 ·show zV0 l e f
  ·exact z
 ·have m:zE5∈a.names:=by
   show kP h
   ·exact J0 b fE h
   ·exact J0 b wM h
  exact absurd rfl (d _ m)
 ·have:=NV.mp n _ (N0 o);show k7
theorem V7(items:aH)(h:MH):live nO items h:=λ_ z=>fN z
theorem U7{mt:MT}{me:ME}{h:MH}:∀(rest a:aH) (o:cH),
  (∀w∈rest,mt BM h=sO (p w,h))->(∀w∈rest,p w=true->me BM h=xD w)->SS<=sizeLine ->
  XQ fin items nO d9 mt me rest a (o::caps) h=fin (a++(rest.filter p).map f) h:=by
 intro rest
 induction rest with
 |nil=>
  intro a o _ _ _;unfold XQ;rw[vU];simp
 | cons w rest g=>
  intro a o d e j;unfold XQ;rw[vU];have l:ZK 0 w (o::caps) h=sO BM:=rfl;rw[l,Ni,d w NG,Ni];have i:jh7:=cL j
  cases c:p w with
  |true=>
   simp only[c];rw[e w NG c,Ni,if_pos aQ];rw[g (a++[f w]) xM (mZ x b d) (mZ x b e) BE];simp[YaF,c]
  |false=>
   simp only[c];rw[g a xM (mZ x b d) (mZ x b e) aQ];simp[YaF,c]
theorem QfS(g:a->Bool):∀xs:g8,Qji (xs.map λx=>W.bl (g x))=sO (xs.map g):=by
 intro xs
 induction xs with
 |nil=>
  exact rfl
 |cons x xs b=>
  simp[Qji,b]
theorem Qih:Kf items nO b body [] σ h=m8 σ h:=by
 rw[Kf,vU]
section
variable{σ σ1:MSt}{h h1 h2 h3:MH}{a b c w:W}{ws:aH}{ma mb mc:ME}{ms:MA}{mt mu:MT}{s1 s2:SM}{f f':W->W->MH->bJ}{g:aH->MH->bJ}{z:MF}
theorem Qrk:Ql σ h=sO ([],h):=rfl
theorem Qne(e:ma σ h=cP a h1)(d:ms σ h1=sO (ws,h2)):Qb ma ms σ h=sO (a::ws,h2):=by unfold Qb;rw[e,Ni,d];rfl
theorem W6(l:ma σ h=cP a h)(j:mb σ h=cP b h)(i:f a b h=Pz t)(e:mc σ h=cP c h)(d:f' b c h=Pz u):XJ f f' ma mb mc σ h=sO (.bl (t&&u),h):=by
 unfold XJ;rw[l,Ni,j,Ni];simp only;rw[i,Ni];cases t<;>simp[e,d]
#print "-"
theorem Qfo(c:zp9):Qo5 d3 jG h=TL:=by unfold Qo5;exact bW c
theorem QkX(c:0<j/\Mv):V8 d3 jG h=zG4:=by unfold V8;exact bW c
theorem Ql9(c:0<j):JL d3 jG h=zG5:=by unfold JL;exact bW c
theorem Qkg(a:lT)(e:atI x.cps.toList i=sO d):wIx cM d3 h=sO (.str ⟨#[d]⟩,h):=by
 unfold wIx;simp only;rw[bW a,e];rfl
theorem Qfv{lo hi:dB}(a:lT):wSl cM lo hi h=sO (.str (Me x),h):=by unfold wSl;exact bW a
theorem Qnw(h0:0<=i)(h1:MS):∃x∈xs,atI xs i=sO x:=by
 have a:i.toNat<xs.length:=aU
 refine⟨xs[i.toNat],Dj a,?_⟩;show zn4
 exact W2 (Nl a)
noncomputable def Qc3(mo mi c:ME):SM:=λa h=>(c a h).bind λv=>(mo a v.2).bind λo=>(mi a o.2).bind λi=>match o.1,i.1 with
 |aG n,aL k=>match i.2[n]? with
  |zT b=>(ixN b.length k).map λj=>.nx a (i.2.set n (.lst (b.set j v.1)))
  |_=>nO
 |_,_=>nO
section
variable{X:Cx}{o i e:Expr}{mo mi mv:ME}{pos pos':Pos}
theorem Qm3{K:Nd}(q:tS K (Qc3 mo mi mv) D σ H):QpF (tI K mv) (QrK (tI K mo) (tI K mi) QnI) D σ H:=by
 obtain⟨R,a,h,r,F,s,e,k⟩:=q;show cX v w Y U e;obtain⟨⟨ob,u⟩,T,S⟩:=eH U;show cX I M Q b S;refine⟨R,a,h,v,w,F,s,Y,λR1 H1 x g m E=>⟨R1,a,w,ob,u,m,xV g,T,λR2 H2 y f l C=>⟨R2,a,u,I,M,l,s.mono (eI g f),Q,fB Z H3 z d c B⟩⟩⟩;show sZ b
 ·show pI n G b
  ·rename_i xs J;show dI j P O b;cases O;obtain⟨p,N,A,L,t⟩:=c.refAt (A1 d C) J;refine⟨_,A,G,j,N,B.int_eq,L,oX t P,?_⟩;exact k Z _ σ (gD g f d) (c.put p ⟨_,rfl,t.set j (Rw.mono (eI f d) _ _ E)⟩) (s.mono (gD g f d))
  ·cases b
 ·cases b
theorem Y6(d:Py)(hi:PM X i mi)(f:PM X e mv)
  (g:∀v,assign SE X.env v=(do
   let a <-holding [v] (iC o)
   let b <-holding [v,a] (iC i)
   standAt pos'
   holding [v,a,b] (setItem a b v)
   release [v,a,b] []):=by intro _;rfl)
  (c:MV:=by rfl) (hw:swappedStores SK e X.env=pure nO:=by rfl):PMS X (.Assign SK e pos) (Qc3 mo mi mv):=
 Xn (QnA f (Qn0 d hi set_list g) (show swapsWith e (sO SE) pos.line X.env=oM from WJ c) hw rfl) λ_ _ _=>Qm3
#print "-"
noncomputable def Qcf(a b:W)(h:MH):bJ:=match a,b with|aL i,aL j=>Ty|_,_=>nO
section
variable{X:Cx}{o i e:Expr}{mo mi mv:ME}{pos pos':Pos}
theorem WG:OpR X (inplaceOp .Add) (F2 X.K Qcf):=by
 intro c s d H x y v u Q I g f q;refine Qmo c s d H x y v u Q I g f ?_;obtain⟨R,h,a,b,w,n,j,m,l,e,k⟩:=q;unfold Qcf at e;split at e
 ·cases e;exact⟨_,_,m.int_eq,l.int_eq,k R H _ c9 j kM⟩
 ·cases e
#print "-"
noncomputable def Qa3(a:W)(ws:aH)(h:MH):bJ:=match ws with
 |[w]=>(lsW h a).bind λc=>(drf h 40 w).bind λx=>(Vi n9 c).bind λb=>(b.findIdx? λy=>eqW y x).map λj=>(.int (j:Nat),h)
 |_=>nO
theorem Qfl(hu:vN):Qfq X "list.index" Qa3:=by
 intro U s σ H x xs v us Q I rx rv q;obtain⟨R,h,a,ws,w,h',p,ra,C,e,k⟩:=q;unfold Qa3 at e;split at e
 ·rename_i w1;show lW T e1;show lW r e2;show lW S P;show dI j e4 e5 e;cases e5;obtain⟨y,rfl,ry⟩:=Wb C;obtain⟨u,rfl,ru⟩:=Yl rv;obtain⟨ad,xv,rfl,q1,G⟩:=p.lsAt ra e1;cases rx;obtain⟨c,B,p1,hz⟩:=f0 q1;show jc0 N
  show j6 l1 G l2 B;have l3:=pZ P;obtain⟨hj,l,d⟩:=Ds.mp e4
  have o:∀m (f:m<c.toArray.size),Qel X.K R h r c.toArray[m]=eqW (S[m]'(by rw[Nr]at f;lia)) r:=by
   intro m f;rw[Nr]at f;obtain⟨t,g⟩:∃t,T[m]?=sO t:=⟨T[m]'(Np (Np f (dX l2)) (dX l1)),Nl _⟩
   show fY v2 L D G g;show fY u2 M E B L;obtain⟨b,hb,eb⟩:=(Zp P).2 m t g;have eu:c.toArray[m]=u2:=by have:=M;rw[Nl f]at this;show iA
   have ez:S[m]' bL=b:=by have:=hb;rw[Nl bL]at this;show iA
   rw[eu,ez];exact Qb4 I p D E eb
  obtain⟨ob,n,Y,Z,ab,hd⟩:=p1;obtain⟨cls,dd,data,sl⟩:=ob;show TQ Z;have i:j<c.toArray.size:=zQ4
  refine DN LQ (gH Y) PySem.F.entry_list_index (PySem.F.args_list_index_2 _ _)
   (list_indexAt ad c.toArray n dd sl u (Qel X.K R h r) j i ?_ ?_ ?_) ⟨Y,λz J=>YJ I p N ry ru e2 G B P z (cD J),?_⟩
  ·have:(sizeLine:Nat)<2^62:=a'
   have aa:j<2^62:=aU
   lia
  ·rw[o j i];exact l
  ·intro m f O;rw[o m f];simpa using d m O
  ·exact⟨aL j,H,gJ,cN,k R H _ c9 p kM⟩
 ·cases e
inductive TabIs:Mf->tK->Prop where
 |nil:TabIs [] []
 |cons {e:DictEntry} {x:Str} {i:Int} {t t':Tok} {es:Mf} {tab:tK} (hk:e.key=.str x t) (hv:e.val=.int i t') (r:zK):TabIs eO ((x,i)::tab)
noncomputable def Yh(tab:tK)(k:Str):dB:=(tab.find? λp=>p.1==k).map (·.2)
noncomputable def Qq6:dB->jS->Prop
 |none,u=>u=nO
 |gA i,u=>∃t,u=sO rB
theorem QcO:∀{es:Mf} {tab:tK} (k:Str),zK->Qq6 (Yh tab k) ((es.find? λe=>Value.isStrOf k e.key).map (·.val))
 |_,_,k,.nil=>rfl
 | _,_,k,.cons (x:=x) (i:=i) (t':=t') c b r=>by
  have a:=QcO k r;unfold Yh at a ⊢;rw[Di,Di,c];simp only[Value.isStrOf]
  by_cases e:(x==k)=true
  ·rw[e];exact⟨t',oO b⟩
  ·have d:(x==k)=false:=cL e
   rw[d];exact a
structure GTab(w:World)(K:Nd)(mg:c')(x:Str)(tab:tK):Prop where
 ex:∃(a:Addr) (es:Mf) (n:Nat),mg x=sO (aC a)/\iF a=Go/\FR w.params es/\SJ/\zK
theorem QlN{K:Nd}{x:Str}{c:Addr}{n:Nat}(X:nQ)(G:tG b)(a:Bc=sO (sO (aC c)))
  (l:iF c=Go) (k:FR w.params es) (s:(zj8 c)=false) (t:zK):GTab w K b x tab:=
 ⟨c,es,n,CG,l,k,s,t⟩
noncomputable def Qhb(neg:Bool)(tab:tK)(a:W)(h:MH):bJ:=match a with
 |aJ x=>sO (.bl (ja3 x),h)
 |_=>nO
noncomputable def QkP(tab:tK)(a:W)(h:MH):bJ:=match a with
 |aJ x=>(Yh tab x).map λi=>(aL i,h)
 |_=>nO
theorem Qf4(r:Qq6 o u):u.isSome=o.isSome:=by
 cases o with
 |none=>rw[show u=nO from r];rfl
 |some i=>obtain⟨t,rfl⟩:=(show∃t,u=sO rB from r);rfl
section
variable{X:Cx}{c:Addr}{es:Mf}{n:Nat}{tab:tK}
theorem QfT(b:X.K.lookup c=Go)(d:zH9)(I:cF a σ):s.heap.MapOf (strKind X.prog X.w) c (λk=>ji6):=
 PySem.W.mapOf_K I.kIn b (cD d)
theorem QfC(a:zK)(k:Str):Qq6 (Yh tab k) (findBy Value.isStrOf es.toArray k):=by
 have:=QcO k a;unfold findBy;rw[List.find?_toArray];exact this
theorem Qev(g:X.K.lookup c=Go)(i:zH9)(f:(zj8 c)=false)(e:zK) :
  OpR X zB0 (λx y H Q=>∃k,x=aJ k/\y=aG c/\Q (.bl (!(Yh tab k).isSome)) H):=by
 intro a s j H x y v u Q I d b h;obtain⟨k,rfl,rfl,q⟩:=h;show aO t d;cases b;refine wpAny_notIn_of jn5 f (QfT g i I) ?_;rw[Qf4 (QfC e k)];exact⟨.bl _,H,gJ,rfl,q⟩
theorem Qtt(o:X.K.lookup c=Go)(p:zH9)(l:zK) :
  IxR X (λx y H Q=>∃k i,x=aG c/\y=aJ k/\Yh tab k=sO i/\Q d3 H):=by
 intro value slice b s z H x y v u Q I j g h m;obtain⟨k,i,rfl,rfl,e,q⟩:=h;show aO t g;cases j;have d:=QfT o p I;have r:=QfC l k;rw[e]at r;obtain⟨f,a⟩:=(show∃t,ji6=sO rB from r)
 exact tail_any d.typeIs Lz.lookup (wpAny_getItem_of jn5 d a ⟨aL i,H,gJ,hL f,q⟩) m
variable{a:Expr}{ma:ME}{x:Str}{pos pos':Pos}
theorem Qpq{K:Nd}(q:tI K (mUn (Qhb neg tab) ma) σ H Q):tI K ma σ H λv b=>∃k,v=aJ k/\Q (.bl (ja3 k)) b:=
 Jf (un1 q) λv b d=>by
  obtain⟨R,h,w,i,j,g,f,e,k⟩:=d;unfold Qhb at e;split at e
  ·cases e;exact⟨_,f.str_eq,k R b _ c9 g jC⟩
  ·cases e
theorem Qeg(G:jA9)(l:jI)(m:lD)(hd:gB:=by decide)(h:behindInMarks .NotIn za0=false:=by rfl):PMT X (.Compare a [.NotIn] zN0 pos) (QB (mUn (Qhb true tab) ma)):=by
 obtain⟨c,es,n,b,i,j,g,f⟩:=G.ex;exact Qbd (Qff (Qev i j g f) m (Ki (v:=aG c) l b rfl hd) h) λo H Q q=>Jf (Qpq (GS q)) λv p ⟨k,e,d⟩=>⟨k,e,rfl,d⟩
theorem Qnv(G:jA9)(p:jI)(r:lD)(hd:gB:=by decide)(l:Qab a:=by intro _ _;rfl):PM X (.Subscript za0 a pos) (mUn (QkP tab) ma):=by
 obtain⟨c,es,n,b,m,o,_,j⟩:=G.ex;refine ZZ (QoW (Qtt m o j) (Ki (v:=aG c) p b rfl hd) r l) (fC y H Q q)
 exact Jf (un1 q) λv u d=>by
  obtain⟨R,h,w,z,A,g,f,e,k⟩:=d;unfold QkP at e;split at e
  ·show dI i t s e;cases s;exact⟨_,i,rfl,f.str_eq,t,k R u _ c9 g kM⟩
  ·cases e
#print "-"
theorem Qta(e:mo σ h=cP a h1)(b:tyW h1 T a=true)(d:ms σ h1=sO (ws,c)):mMt T f mo ms σ h=f a ws c:=by
 unfold mMt;rw[e,Ni];simp only;rw[bW b,d,Ni]
theorem Qky(a b:Int)(h:MH):wEq (.int a) (.int b) h=MZ a b:=jq5
theorem Qkk(a b:Int)(h:MH):wNe (.int a) (.int b) h=sO (.bl (!(a==b)),h):=jq6
theorem Qms(a b:Str)(h:MH):wEq (lM a) (lM b) h=MZ a b:=jq5
theorem Qfr:(("":Str)).length=0:=fW
theorem YX:∀zs:aD,UD z9=sO zs:=by
 intro zs
 induction zs with
 |nil=>
  exact rfl
 |cons z zs a=>
  rw[NA];unfold UD;rw[a];rfl
theorem Qh1(b:(zs.map (·.length)).sum<=16777216):Xp (.str "") [.lst z9] h=sO (.str (Txt.join "" zs),h):=by
 show((lsW h (.lst z9)).bind λa=>(UD a).bind λzs=>if(zs.map (·.length)).sum+zs.length*(("":Str)).length<=16777216 then sO (W.str (Txt.join "" zs),h)else nO)=_;rw[show lsW h (.lst z9)=sO z9 from rfl,Ni,YX,Ni,if_pos (by rw[Qfr];omega)]
noncomputable def Qha(kvs:gU W)(k:Key):cH:=(kvs.find? vK).map (·.2)
noncomputable def Qlf(kvs:gU W)(k:Key)(v:W):gU W:=
 if(kvs.any vK)=true then kvs.map (λa=>B4 a v)else kvs++[(k,v)]
noncomputable def QmM:W->Option Key
 |aL i=>sO (iS i)
 |aJ x=>sO wY
 |_=>nO
section
variable{K:Nd}{R:Rn}
noncomputable abbrev DicR(K:Nd)(R:Rn):gU W->gU V->Prop:=Paired λp q=>jA4
theorem G4(r:iB)(e:QmM w=sO k):v=kV k:=by
 cases w with
 |int i=>cases e;exact r.int_eq
 |str x=>cases e;exact r.str_eq
 |_=>cases e
theorem QgQ{kvs:gU W}{a:gU V}(d:M' a):(Qha kvs k=nO/\Qem a k=nO)\/∃w v,Qha kvs k=sO w/\Qem a k=sO v/\iB:=by
 induction d with
 |nil=>exact .inl wC
 |@cons p q ps c h t b=>
  by_cases e:p.1=k
  ·exact .inr ⟨p.2,q.2,by simp[Qha,Di,e],by simp[Qem,Di,<-h.1,e],h.2⟩
  ·simpa[Qha,Qem,Di,e,<-h.1]using b
theorem QkI{kvs:gU W}{b:gU V}(d:M' b):(kvs.any vK)=b.any vK:=by
 induction d with
 |nil=>rfl
 |cons h t c=>rw[Dk,Dk,c,h.1]
theorem Qc6(r:iB):∀{kvs:gU W} {d:gU V},M' d->DicR K R (kvs.map (λc=>B4 c w)) (d.map (λc=>B4 c v))
 |_,_,.nil=>.nil
 |_,_,.cons (a:=p) (b:=q) h t=>by
  rw[NA,NA];refine .cons ?_ (Qc6 r t)
  by_cases e:p.1=k
  ·rw[bW e,if_pos (h.1▸e)];exact⟨h.1,r⟩
  ·rw[cR e,if_neg (h.1▸e)];exact h
theorem QlE(d:M' a)(r:iB):DicR K R (Qlf kvs k w) (QiT a k v):=by
 unfold Qlf QiT;rw[QkI d];split
 ·exact Qc6 r d
 ·exact Paired.snoc d ⟨rfl,r⟩
theorem Rh.dicAt(q:eV)(r:Rw K R (aC n) v)(e:h[n]?=sO (.dic kvs)) :
  n<R.N/\v=.ref kQ/\∃a,H kQ=sO (.dK a)/\M' a:=by
 show fG r;exact⟨r.1,r.2,mB q e⟩
#print "-"
noncomputable def Qh4:ME:=λ_ h=>sO (oG,h++uB)
noncomputable def Qlz(h:MH):W->Option (List (Key×W))
 |aG n=>match h[n]? with|yW=>sO kvs|_=>nO
 |_=>nO
theorem Qck(e:Qlz h a=sO kvs):∃n,a=aG n/\h[n]?=sO (.dic kvs):=by
 cases a with
 |ref n=>
  simp only[Qlz]at e;split at e
  ·show sB c b e;exact⟨n,rfl,b⟩
  ·cases e
 |_=>cases e
noncomputable def Qps(a b:W)(h:MH):bJ:=(Qlz h a).bind λkvs=>(QmM b).bind λk=>(Qha kvs k).map λv=>(v,h)
noncomputable def QgN(mo mi b:ME):SM:=λa h=>(b a h).bind λv=>(mo a v.2).bind λo=>(mi a o.2).bind λi=>(QmM i.1).bind λk=>match o.1 with
 |aG n=>match i.2[n]? with
  |yW=>if T4 then sO (.nx a (i.2.set n (.dic (Qlf kvs k v.1))))else nO
  |_=>nO
 |_=>nO
section
variable{X:Cx}{o i e a b:Expr}{mo mi mv ma mb:ME}{pos pos':Pos}
theorem Qge:PM X (.Dict [] [] pos) Qh4:=ZZ Qij λn H Q q=>by
 obtain⟨R,f,h,w,s,j,st,e,k⟩:=q;cases e;intro p l;obtain⟨m,g,d,c⟩:=j.new (mo:=.dic []) (o:=.dK []) l λt r=>⟨[],rfl,.nil⟩
 exact k m _ _ g d c
theorem Qot(B:vN)(F:lD)(E:wV)(C:Qab b:=by intro _ _;rfl):PM X (BJ a b) (Qi Qps ma mb):=
 ZZ (Qk9 (EG (DJ aA _) B) F E C) λT H Q q=>Jf CL λx H1 s=>Jf s λy S l=>by
  obtain⟨R,h,a,b,w,Z,d,r,p,e,k⟩:=l;unfold Qps at e;obtain⟨kvs,O,N⟩:=eH e;show fQ t M L N;show dI v c J L;cases J;obtain⟨n,rfl,D⟩:=Qck O;obtain⟨_,G,Y,u,P⟩:=d.dicAt r D;have I:=G4 p M;subst I
  rcases QgQ (k:=t) P with z|⟨U,m,j,g,f⟩
  ·rw[z.1]at c;cases c
  ·show bT j c;exact⟨_,m,G,by rw[<-g];exact DGet.k u,k R S _ c9 d f⟩
theorem QkV{K:Nd}(q:tS K (QgN mo mi mv) D σ H):Qnb (tI K mo) (tI K mi) (tI K mv) D σ H:=by
 obtain⟨R,d,h,r,G,s,e,k⟩:=q;show cX v B Z Y e;obtain⟨⟨ob,A⟩,U,T⟩:=eH Y;show cX I M S Q T;obtain⟨kk,P,c⟩:=eH Q;refine⟨R,d,h,v,B,G,s,Z,λR1 H1 x m t F=>⟨R1,d,B,ob,A,t,xV m,U,λR2 H2 y l p E=>⟨R2,d,A,I,M,p,s.mono (eI m l),S,fB R3 H3 z j f C⟩⟩⟩;show sZ c
 ·show wR n c
  ·rename_i kvs J;split at c
   ·show eF g c;obtain⟨u,O,kx,L,w⟩:=f.dicAt (A1 j E) J;have N:=G4 C P;subst N;refine⟨_,_,O,DPut.k L (by rw[<-Du w];exact g),?_⟩;exact k R3 _ σ (gD m l j) (f.put u ⟨_,rfl,QlE w (Rw.mono (eI l j) _ _ F)⟩) (s.mono (gD m l j))
   ·cases c
  ·cases c
 ·cases c
theorem QiV(c:vN)(f:Py)(hi:PM X i mi)(g:PM X e mv)(d:MV:=by rfl):PMS X (.Assign SK e pos) (QgN mo mi mv):=
 Xn (Qmq (EG (DJ aA _) c) f hi g (show swapsWith e (sO SE) pos.line X.env=oM from WJ d)) λ_ _ _=>QkV
#print "-"
theorem Qhl(xs:g8)(x:a):zN1 x=sO x:=by
 unfold atI ixN;rw[if_neg aA,if_pos BE,Ni];have:((-1:Int)+((xs++[x]).length:Nat)).toNat=xs.length:=zg4
 rw[this];simp
mutual
noncomputable def pur:rX
 |fA=>Vj ws
 |eZ=>Vj ws
 |oP=>Vj ws
 |xQ=>false
 |_=>true
noncomputable def Vj:aH->Bool
 |[]=>true
 |w::ws=>pur w&&Vj ws
end
noncomputable def Qek:MO->Bool
 |eZ=>Vj ws
 |.dic kvs=>Vj (kvs.map (·.2))
 |.dct kvs=>Vj (kvs.map (·.2))
 |.ins _ _=>false
mutual
noncomputable def th(f:Nat->cH):W->cH
 |fA=>(ths f ws).map .tup
 |eZ=>(ths f ws).map .lst
 |oP=>(ths f ws).map .frz
 |aG j=>f j
 |w=>sO w
noncomputable def ths(f:Nat->cH):aH->ze9 W
 |[]=>sO []
 |w::ws=>(th f w).bind λx=>(ths f ws).map (x::·)
end
noncomputable def thO(f:Nat->cH):MO->Option MO
 |eZ=>(ths f ws).map .lst
 |.dic kvs=>(ths f (kvs.map (·.2))).map λvs=>.dic ((kvs.map (·.1)).zip vs)
 |.dct kvs=>(ths f (kvs.map (·.2))).map λvs=>.dct ((kvs.map (·.1)).zip vs)
 |.ins _ _=>nO
noncomputable def res(a:Nat->Ce)(g:MH):Nat->Nat->cH
 |0,j=>(a j).map .ref
 | d+1,j=>match a j with
  |gA n=>sO (aC n)
  |none=>match g[j]? with
   |some kO=>(ths (res a g d) ws).map .lst
   |_=>nO
noncomputable def GR(ns a:dD)(N j:Nat):Ce:=match ns[j]? with
 |gA n=>sO n
 |none=>(a.findIdx? (·==j)).map (N+·)
noncomputable def Wf:Nat->aH->Option (aH×dD)
 |_,[]=>sO ([],[])
 |k,aG n::ws=>(Wf (k+1) ws).map λp=>(aG k::p.1,n::p.2)
 |k,w::ws=>if pur w then(Wf k ws).map λp=>(w::p.1,p.2)else nO
noncomputable def ZP:dD->pR->MH->MH
 |n::ns,o::os,h=>ZP ns os (h.set n o)
 |_,_,h=>h
noncomputable def QdY(h:MH)(n:Nat):Option MO:=match h[n]? with|gA o=>if Qek o then sO o else nO|none=>nO
noncomputable def Qla(a:W->dD)(m:FM)(as:aH)(ns:dD)(h:MH):bJ:=
 if ns.Nodup then(Vi (QdY h) ns).bind λc=>(m as c).bind λp=>
  if(a p.1).Nodup/\(∀j∈a p.1,ns.length<=j)then
   (th zq2 p.1).bind λw=>
   (Vi (λj=>(p.2[j]?).bind (thO zq2)) zw5).bind λos=>
   (Vi (λj=>(p.2[j]?).bind (thO zq2)) (a p.1)).map λb=>
   (w,ZP ns os h++b)
  else nO
 else nO
noncomputable def box(c:W->dD)(m:FM):FM:=λb h=>(Wf 0 b).bind λa=>Qla c m a.1 a.2 h
section
variable{K:Nd}{R R':Rn}
mutual
theorem Rw.pur_mono(b:y8):∀(w:W) (v:V),u7->iB->nU R' w
 |.non,_,_,h=>by show kZ
 |.bl _,_,_,h=>by show kZ
 |oQ,_,_,h=>by show kZ
 |k9,_,_,h=>by show kZ
 |.ty _,_,_,h=>by show kZ
 |fA,_,p,h=>by
  show AR e d c;exact⟨a,xs,e,Jv b d,zn9⟩
 |eZ,_,p,h=>by
  show AR e d c;exact⟨a,xs,e,b a _ d,zn9⟩
 |oP,_,p,h=>by
  show AR e d c;exact⟨a,xs,e,ZA b d,zn9⟩
 |aG n,_,p,h=>js3
theorem Rws.pur_mono(c:y8):∀(ws:aH) (vs:bD),wP->kI->Rws K R' ws vs
 |[],_,_,h=>by show MK;exact h
 |w::ws,_,p,h=>by
  show MK;show cA v b f e d h;show vQ p;exact⟨v,b,f,Rw.pur_mono c w v p.1 e,Rws.pur_mono c ws b p.2 d⟩
end
mutual
theorem Rw.th_ok(c:y8)(m:∀j v w,Rw K R (aC j) v->f j=sO w->nU R' w):∀(w:W) (v:V) (w':W),th f w=sO w'->iB->nU R' w'
 |.non,_,_,e,h=>by show M3;show kZ
 |.bl _,_,_,e,h=>by show M3;show kZ
 |oQ,_,_,e,h=>by show M3;show kZ
 |k9,_,_,e,h=>by show M3;show kZ
 |.ty _,_,_,e,h=>by show M3;show kZ
 |fA,_,_,e,h=>by
  show zn6;show cA a b l i g h;exact⟨a,b,l,Jv c i,zu4⟩
 |eZ,_,_,e,h=>by
  show zn6;show cA a b l i g h;exact⟨a,b,l,c a _ i,zu4⟩
 |oP,_,_,e,h=>by
  show zn6;show cA a b l i g h;exact⟨a,b,l,ZA c i,zu4⟩
 |aG n,v,w',e,h=>by unfold th at e;exact m n v w' h e
theorem Rws.th_ok(g:y8)(d:∀j v w,Rw K R (aC j) v->f j=sO w->nU R' w):∀(ws:aH) (vs:bD) (b:aH),ths f ws=sO b->kI->Rws K R' b vs
 |[],_,_,e,h=>by unfold ths at e;cases e;show MK;exact h
 |w::ws,_,_,e,h=>by
  unfold ths at e;show fQ x h1 n e;show dI i m l n;subst l;unfold Rws at h;show cA v c s r p h;subst s;exact Rws.cons (Rw.th_ok g d w v x h1 r) (Rws.th_ok g d ws c i m p)
end
theorem DicR.vals:∀{kvs:gU W} {a:gU V},Paired RQ kvs a->Rws K R (kvs.map (·.2)) (a.map (·.2))/\kvs.map (·.1)=a.map (·.1):=by
 intro kvs a p
 induction p with
 |nil=>exact⟨Rws.nil,rfl⟩
 |cons h t b=>exact⟨Rws.cons h.2 b.1,by rw[NA,NA,b.2,h.1]⟩
theorem DicR.zip{ks:List Key}{a:gU V}{us:aH}(e:ks=a.map (·.1))(h:Rws K R us (a.map (·.2))):Paired RQ (ks.zip us) a:=by
 subst e
 induction a generalizing us with
 |nil=>exact .nil
 | cons q a b=>
  rw[NA]at h;cases us with
  |nil=>show PK h;cases h
  |cons u us=>
   show C8 h;show cA v g f d c h;cases f;exact .cons ⟨rfl,d⟩ (b c)
theorem QcD:∀(n:Nat) (w:W) (k:Tr),Qj7 n w=sO k->u7
 |0,_,_,e=>by simp[Qj7]at e
 | n+1,w,k,e=>by
  cases w with
  | tup ws=>
   simp only[Qj7]at e;obtain⟨ks,b,f⟩:=mJ e;unfold pur;clear e f
   induction ws generalizing ks with
   |nil=>rfl
   |cons x ws d=>
    rw[List.mapM_cons]at b;show fQ c h i b;obtain⟨a,g,_⟩:=eH i;unfold Vj;rw[QcD n x c h,d a g];rfl
  |lst ws=>simp[Qj7]at e
  |frz ws=>simp[Qj7]at e
  |ref j=>simp[Qj7]at e
  |_=>rfl
theorem QeY(e:nrm w=sO k):u7:=by
 cases w with
 |tup a=>exact QcD 8 _ k e
 |_=>cases e
theorem DctR.vals:∀{kvs:List (W×W)} {a:HM},Paired zn1 kvs a->Rws K R (kvs.map (·.2)) (a.map (·.2.2))/\Paired ja4 (kvs.map (·.1)) a:=by
 intro kvs a p
 induction p with
 |nil=>exact⟨Rws.nil,.nil⟩
 |cons h t b=>exact⟨Rws.cons h.2.2 b.1,.cons ⟨h.1,h.2.1⟩ b.2⟩
theorem DctR.zip{ks:aH}{a:HM}{us:aH}(p:Paired ja4 ks a)(h:Rws K R us (a.map (·.2.2))):Paired zn1 (ks.zip us) a:=by
 induction p generalizing us with
 |nil=>exact .nil
 | cons e t b=>
  rw[NA]at h;cases us with
  |nil=>show PK h;cases h
  |cons u us=>
   show C8 h;show cA v g f d c h;cases f;exact .cons ⟨e.1,e.2,d⟩ (b c)
theorem Qdd(m:y8)(r:∀j v w,Rw K R (aC j) v->f j=sO w->nU R' w)(e:thO f o=sO o')(h:CN R):Ro K R' o' u:=by
 cases o with
 |lst t=>
  unfold thO at e;show dI c g d e;subst d;show fH s l i h;exact⟨s,l,Rws.th_ok m r t s c g i⟩
 |dic kvs=>
  unfold thO at e;show dI c g d e;subst d;show fH n l i h;obtain⟨a,b⟩:=DicR.vals i;exact⟨n,l,DicR.zip b jq7⟩
 |dct kvs=>
  unfold thO at e;show dI c g d e;subst d;show fH n l i h;obtain⟨a,b⟩:=DctR.vals i;exact⟨n,l,DctR.zip (Paired.mapP b λp q z=>⟨Rw.pur_mono m _ _ (QeY z.2) z.1,z.2⟩) jq7⟩
 |ins C fs=>cases e
theorem QbE(e:y8)(p:wQ)(h:CN R):CN R':=by
 cases o with
 |lst j=>
  show fH i c d h;exact⟨i,c,Rws.pur_mono e j i p d⟩
 | dic kvs=>
  show fH f c d h;show zX2
  induction d with
  |nil=>exact λ_=>.nil
  |cons h t g=>
   intro b;rw[NA]at b;show vQ b;exact .cons ⟨h.1,Rw.pur_mono e _ _ b.1 h.2⟩ (g b.2)
 | dct kvs=>
  show fH f c d h;show zX2
  induction d with
  |nil=>exact λ_=>.nil
  |cons h t g=>
   intro b;rw[NA]at b;show vQ b;exact .cons ⟨Rw.pur_mono e _ _ (QeY h.2.1) h.1,h.2.1,Rw.pur_mono e _ _ b.1 h.2.2⟩ (g b.2)
 |ins C fs=>cases p
theorem Qmk(z:∀a o,R.F a=sO o->R0.F a=sO o)(d:∀(i n:Nat),all[i]?=sO n->i<R0.N/\R0.ρ i=uS):∀{ws:aH} {vs:bD} {pre:dD} {as:aH} {ns:dD},Wf pre.length ws=Pe->all=pre++ns->kI->Rws K R0 as vs:=by
 intro ws
 induction ws with
 |nil=>
  intro vs pre as ns e c h;unfold Wf at e;cases e;show lR h;show xI
 | cons w ws r=>
  intro vs pre as ns e c h;show lN h v x f s
  by_cases hw:∃n,w=aG n
  ·obtain⟨n,rfl⟩:=hw;unfold Wf at e;show sR m b j g e;refine Rws.cons ?_ (r (pre:=pre++[n]) (ns:=b) (by rw[Nw];exact j) (jA c) s);obtain⟨u,t⟩:=d pre.length n (jA c);show CA f;exact⟨u,by rw[t];exact f.2⟩
  ·have l:(if pur w then(Wf pre.length ws).map λp=>(w::p.1,p.2)else nO)=Pe:=by
    rw[<-e];cases w<;>first|(exact absurd cN hw)|(conv=>rhs;unfold Wf)
   split at l
   ·rename_i y;show sR m b j g l;exact Rws.cons (Rw.pur_mono z w v y f) (r j c s)
   ·cases l
theorem VM:∀(ns:dD) (os:pR) (h:MH),(ZP ns os h).length=h.length
 |[],_,h=>TW
 |_::_,[],h=>TW
 |n::ns,o::os,h=>by unfold ZP;rw[VM ns os,Dh]
theorem Yv:∀(ns:dD) (os:pR) (h:MH) (n:Nat),n∉ns->(ZP ns os h)[n]?=h[n]?
 |[],_,h,n,_=>TW
 |_::_,[],h,n,_=>TW
 |m::ns,o::os,h,n,a=>by
  unfold ZP;rw[Yv ns os _ n (λz=>a PN),DD (λz=>a (by rw[z];exact NG))]
theorem Gf:∀(ns:dD) (os:pR) (h:MH) (i n:Nat),ns.Nodup->ns.length=os.length->ns[i]?=sO n->n<h.length->(ZP ns os h)[n]?=os[i]?
 |[],_,h,i,n,_,_,e,_=>gG e
 |m::ns,[],h,i,n,_,a,_,_=>gG a
 |m::ns,o::os,h,0,n,hd,a,e,b=>by
  show Ai e;unfold ZP;rw[Yv ns os _ m (ES.mp hd).1,EA b];rfl
 |m::ns,o::os,h,i+1,n,hd,a,e,b=>by
  unfold ZP;rw[Gf ns os (h.set m o) i n (ES.mp hd).2 (cD a) (cD e) (zP4 b)];simp
#print "-"
#print "-Mi"
namespace Mi
open L2
theorem Qh5:∀{ws:aH} {k:Nat} {as:aH} {ns:dD},Wf k ws=Pe->as.length=ws.length:=by
  intro ws
  induction ws with
  | nil=>
    intro k as ns e;unfold Wf at e;cases e;rfl
  | cons w ws f=>
    intro k as ns e
    cases w<;>unfold Wf at e<;>first
      | (show sR d a c b e
         simp[f c])
      | (split at e
         · show sR d a c b e;simp[f c]
         · cases e)
theorem Qat{a:dD}(e:a.findIdx? (·==j)=sO i):a[i]?=sO j:=by
 rw[Ds]at e;obtain⟨h,b,_⟩:=e;rw[Nl h];simp at b;rw[b]
theorem Qau{js:dD}(e:js.findIdx? (·==j)=nO):j∉js:=by
 rw[LA]at e;intro z;have:=e j z;show k7
theorem Qes(e:QdY h n=sO o):h[n]?=sO o/\wQ:=by
 unfold QdY at e;split at e
 ·show pI c b e
  ·show eF a e;show lL b a
  ·cases e
 ·cases e
theorem Qa4{a:dD}(h:a.Nodup){i b j:Nat}(e:a[i]?=sO j)(c:a[b]?=sO j):i=b:=
 (List.getElem?_inj (cG e) h).mp (e.trans c.symm)
section
variable{K:Nd}
open Classical in
theorem QnS(q:spM K n (box fr m) vs H Q E):spM K n m vs H Q E:=by
 obtain⟨R,ws,h,wx,h2,hl,L,ax,e,k⟩:=q;unfold box at e;obtain⟨⟨as,A⟩,e1,e2⟩:=eH e;unfold Qla at e2;split at e2
 case isFalse=>cases e2
 rename_i hd;show fQ h0 e3 e4 e2;show cX w g e5 e6 e4;show sZ e6
 case isFalse=>cases e6
 rename_i hj;obtain⟨a4,a3⟩:=hj;obtain⟨wy,e7,e8⟩:=eH e6;obtain⟨os,e9,a8⟩:=eH e8;obtain⟨us,am,a7⟩:=mJ a8;cases a7;generalize a9:fr w=js at *
 have X:∀(i x:Nat),P8->x<R.N/\∃o,h[x]?=sO o/\h0[i]?=sO o/\wQ:=λi x l=>by
  obtain⟨o,D,t⟩:=(Zp e3).2 i x l;obtain⟨z3,z4⟩:=Qes t;exact⟨zy2 L z3,o,z3,D,z4⟩
 have af:∀x,x∈A->∃i:Nat,P8:=λx l=>N8.mp l
 let R0:Rn:={ ρ:=λi=>R.ρ (A.getD i 0),N:=A.length,F:=R.F,G:=λa=>if∃x,x<R.N/\x∉A/\AC=a then H a else R.G a }
 have T:∀(i x:Nat),P8->i<R0.N/\R0.ρ i=AC:=λi x l=>by
  refine⟨cG l,?_⟩;show R.ρ (A.getD i 0)=_;rw[Ec,l];rfl
 have ah:∀i:Nat,i<A.length->∃x,P8:=λi O=>⟨A[i],Nl O⟩
 have al:∀x,x<R.N->x∉A->R0.G PQ=H PQ:=λx l hn=>if_pos ⟨x,l,hn,rfl⟩
 have ak:∀a o,R.G a=sO o->R0.G a=sO o:=λa o z=>by
  show zn7;split
  ·exact L.gsub a o z
  ·exact z
 have ay:Rh K R0 h0 H:=by
  refine⟨pZ e3,L.sub,bQ i O,λi j O hj ee=>?_,aP i o O,Mz,bQ i O,Mz⟩
  ·show zf5 O;rw[zg5];exact L.sep x zg6
  ·show zf5 O;obtain⟨y,U⟩:=ah j hj;rw[zg5,(T j y U).2]at ee;have:=L.inj x y zg6 (X j y U).1 ee;subst this;exact Qa4 hd l U
  ·have a6:i<A.length:=by rw[pZ e3];exact(Nh.mp O).1
   show zf5 a6;obtain⟨_,o',D,t,z3⟩:=X i x l;show bT O t;rw[zg5];exact QbE (R:=R) (R':=R0) (xB z) z3 (L.obj x o D)
  ·have J:zn7:=ha;split at J
   ·exact J
   ·exact L.gsub a o J
  ·show zf5 O;rw[zg5];show(if∃y,y<R.N/\y∉A/\R.ρ y=AC then H PQ else R.G PQ)=nO;rw[if_neg]
   ·exact L.gsep x zg6
   ·rintro⟨y,U,az,ey⟩
    have:=L.inj y x U zg6 ey;subst this;exact az (Pf i l)
  ·have J:zn7:=ha;split at J
   ·rename_i l;obtain⟨x,l,_,rfl⟩:=l;exact L.sep x l
   ·exact L.gf a o J
 refine⟨R0,as,h0,w,g,(Qh5 e1).trans hl,ay,Qmk (R:=R) (R0:=R0) (pre:=[]) (xB z) T e1 rfl ax,e5,λR1 H1 v x1 s rv=>?_⟩;have ab:R1.G=R0.G:=x1.g
 have aa:∀(i x:Nat),P8->i<R1.N/\R1.ρ i=AC:=λi x l=>by
  obtain⟨D,t⟩:=T i x l;exact⟨Np D x1.n,(x1.ρ i D).trans t⟩
 have Y:∀(i j:Nat),js[i]?=sO j->zf7/\j<R1.N/\∃o u,us[i]?=sO u/\g[j]?=sO o/\thO (res (GR A js h.length) g 3) o=sO u:=λi j p=>by
  obtain⟨u,D,t⟩:=(Zp am).2 i j p;show fQ o z3 z4 t;exact⟨a3 j (Pf i p),zy2 s z3,o,u,D,z3,z4⟩
 have P:∀x,x<R.N->∀j,zf7->j<R1.N->R1.ρ j≠AC:=λx l j hj aq ee=>by
  by_cases hm:x∈A
  ·show zp8;have:=s.inj j i aq D (ee.trans t.symm);have:=cG O;lia
  ·have z:=s.gsep j aq;rw[ab,ee,al x l hm]at z;obtain⟨_,u,_,hu⟩:=L.there l;rw[hu]at z;cases z
 let R2:Rn:={ ρ:=λn=>if n<R.N then uS else R1.ρ (js.getD (n-R.N) 0),N:=zQ5,F:=λa=>match R1.F a with|gA o=>sO o|none=>if zp4 then H1 a else nO,G:=R.G }
 have C:∀x,x<R.N->R2.ρ x=AC:=λx l=>bW l
 have I:∀(i j:Nat),js[i]?=sO j->R2.ρ (R.N+i)=R1.ρ j:=λi j p=>by
  show(if R.N+i<R.N then R.ρ (R.N+i)else R1.ρ (js.getD (R.N+i-R.N) 0))=_;rw[if_neg (N7.mpr dZ),LS,Ec,p];rfl
 have f1:∀a o,R1.F a=sO o->R2.F a=sO o:=λa o z=>by
  show zm5=sO o;rw[z]
 have Z:∀a,R1.F a=nO->(¬zp4)->R2.F a=nO:=λa D t=>by
  show zm5=nO;rw[D];exact cR t
 have ar:∀j,zf7->j<R1.N->j∉js->R2.F Ct=H1 Ct:=λj a b c=>by
  show(match R1.F Ct with|gA o=>sO o|none=>if∃j',A.length<=j'/\j'<R1.N/\j'∉js/\R1.ρ j'=R1.ρ j then H1 Ct else nO)=_;rw[s.sep j b];exact if_pos ⟨j,a,b,c,rfl⟩
 have aj:kW R2:=⟨AB,λx l=>C x l,λa o z=>f1 a o (x1.f a o z),rfl⟩
 have B:∀x,x<R2.N->x<R.N\/∃i j:Nat,x=R.N+i/\js[i]?=sO j:=λx l=>by
  have ai:x<zQ5:=l
  by_cases z:x<R.N
  ·exact dU z
  ·exact .inr ⟨x-R.N,js[x-R.N]'(FS (mI z) ai),aU,Nl (FS (mI z) ai)⟩
 have hr:∀d j v w,Rw K R1 (aC j) v->res (GR A js h.length) g d j=sO w->nU R2 w:=by
  have ae:∀j v x,Rw K R1 (aC j) v->GR A js h.length j=sO x->Rw K R2 (aC x) v:=λj v x r z=>by
   show CA r;unfold GR at z;split at z
   ·rename_i y U;cases(z);obtain⟨D,t⟩:=aa j x U;have an:=(X j x U).1;exact⟨Np an aj.n,by rw[C x an,<-t];exact r.2⟩
   ·show dI i D t z;have p:=Qat D;subst t;rw[<-L.len,q4 I];exact⟨DJ (cG p) _,r.2⟩
  intro d
  induction d with
  |zero=>
   intro j v w r z;unfold res at z;show dI x D t z;subst t;exact ae j v x r D
  | succ d ih=>
   intro j v w r z;unfold res at z;split at z
   ·show sB x l z;exact ae j v x r l
   ·show wR M z
    ·rename_i av hg;obtain⟨aw,D,t⟩:=mJ z;subst t;obtain⟨xs,o1,o2⟩:=s.obj j _ hg;have ao:j<R1.N/\v=.ref Ct:=by show fG r;exact r
     unfold GR at M;split at M
     ·cases M
     ·rename_i a2;have ap:j∉js:=Qau (cD M);unfold Rw;refine⟨R1.ρ j,xs,ao.2,?_,Rws.th_ok f1 ih av xs aw D o2⟩;rw[ar j (LB.mp a2) ao.1 ap];exact o1
    ·cases z
 refine k R2 H1 v aj ⟨?_,Mz,bQ x l,λx y l U ee=>?_,aP x o l,Mz,bQ x l,Mz⟩ (Rw.th_ok f1 (hr 3) w v _ e7 rv)
 ·show zQ5=_;rw[Nw,VM,<-(Zp am).1,L.len]
 ·have J:zm5=sO o:=ha;split at J
  ·show sB o' a1 J;exact s.sub a _ a1
  ·split at J
   ·exact J
   ·cases J
 ·rcases B x l with l|⟨i,j,rfl,p⟩
  ·rw[C x l];refine Z _ ?_ (λ⟨j,a,b,_,c⟩=>P x l j a b c)
   by_cases hm:x∈A
   ·show zp8;rw[<-t];exact s.sep i D
   ·obtain⟨_,u,_,hu⟩:=L.there l;exact s.gf _ u (by rw[ab,al x l hm];exact hu)
  ·obtain⟨D,t,_⟩:=q4 Y;rw[q4 I];refine Z _ (s.sep j t) (sL z0);show cA j' a b c d z0;have:=s.inj j' j b t d;subst this;exact c (Pf i p)
 ·rcases B x l with l|⟨i,j,rfl,p⟩<;>rcases B y U with U|⟨i',j',rfl,S⟩
  ·rw[C x l,C y U]at ee;exact L.inj x y l U ee
  ·rw[C x l,I i' j' S]at ee;obtain⟨D,t,_⟩:=Y i' j' S;exact absurd ee.symm (P x l j' D t)
  ·rw[C y U,q4 I]at ee;obtain⟨D,t,_⟩:=q4 Y;exact absurd ee (P y U j D t)
  ·rw[q4 I,I i' j' S]at ee;obtain⟨_,t,_⟩:=q4 Y;obtain⟨_,au,_⟩:=Y i' j' S;have:=s.inj j j' t au ee;subst this;rw[Qa4 a4 p S]
 ·have ai:x<R2.N:=by
   have:=cG l;rw[Nw,VM,<-(Zp am).1,<-L.len]at this;exact this
  rcases B x ai with hn|⟨i,j,rfl,p⟩
  ·rw[Ew (by rw[VM,<-L.len];exact hn)]at l;rw[C x hn]
   by_cases hm:x∈A
   ·show zp8;have a5:=cG O;rw[Gf A os h i x hd (by rw[<-(Zp e9).1,DW]) O (by rw[<-L.len];exact hn)]at l;obtain⟨u,y1,y2⟩:=(Zp e9).2 i i (by rw[De a5]);show bT l y1;show fQ o' y3 y4 y2;rw[<-t];exact Qdd f1 (hr 3) y4 (s.obj i o' y3)
   ·rw[Yv A os h x hm]at l;obtain⟨_,u,_,hu⟩:=L.there hn;have a0:H1 PQ=sO u:=s.gsub _ u (by rw[ab,al x hn hm];exact hu);have:=L.obj x o l;rw[hu]at this;rw[a0];exact this.mono aj
  ·obtain⟨D,t,o',u,y1,y2,y3⟩:=q4 Y;rw[Dv (by rw[VM,<-L.len];exact AB),VM,<-L.len,LS,y1]at l;cases l;rw[q4 I];exact Qdd f1 (hr 3) y3 (s.obj j o' y2)
 ·exact s.gsub a o (by rw[ab];exact ak a o ha)
 ·rcases B x l with l|⟨i,j,rfl,p⟩
  ·rw[C x l];exact L.gsep x l
  ·rw[q4 I];obtain⟨_,t,_⟩:=q4 Y;cases z:R2.G Ct with
   |none=>rfl
   |some u=>
    have z3:=s.gsep j t;rw[ab,ak _ u z]at z3;cases z3
 ·have hg:R1.G a=sO o:=by rw[ab];exact ak a o ha
  refine Z a (s.gf a o hg) (sL z0);obtain⟨j,_,b,_,d⟩:=z0;have z3:=s.gsep j b;rw[d,hg]at z3;cases z3
theorem Cal.box(b:W->dD)(C:Cal P w K a base k x ps g):Cal P w K a base k x ps (Mi.box b g):=
 C.imp λ_ _ _ _ q=>QnS q
#print "-"
noncomputable def frN:W->dD:=λ_=>[]
noncomputable def W7:dD->aH->MSt->Pd
 |[],[],σ=>sO σ
 |i::is,w::ws,σ=>W7 is ws (σ.set i xM)
 |_,_,_=>nO
noncomputable def ZS(is:dD):MG:=λw a _=>match w with|mL b=>W7 is b a|_=>nO
noncomputable def Qd9:dD->TGs
 |[]=>QrB
 |i::is=>QnO (QeQ i) (Qd9 is)
theorem VV:PGs X [] (Qd9 []):=Qlp
theorem Q8(hN:X.N.Nodup)(hi:kJ)(a:n')(h:PGs X es (Qd9 is))(b:nW)
  : PGs X (.Name x pos::es) (Qd9 (i::is)):=QiR (QeH hN hi a b) h
theorem Qdl{K:Nd}:∀{is:dD} {ws:aH} {xs:bD} {a σ1:MSt} {σ:L2.St},W7 is ws a=sO σ1->gZ->iR R a σ->(∀b,iR R σ1 b->C b H)->Qd9 is xs σ H C
 |[],[],xs,a,σ1,σ,e,r,s,k=>by
  cases e;show PK r;exact⟨r,k σ s⟩
 |i::is,w::ws,xs,a,σ1,σ,e,r,s,k=>by
  show C8 r;obtain⟨v,vs,rfl,c,r2⟩:=r;exact⟨v,vs,rfl,Qdl (is:=is) e r2 (s.set c) k⟩
 |[],_::_,_,_,_,_,e,_,_,_=>fN e
 |_::_,[],_,_,_,_,e,_,_,_=>fN e
theorem Qbu:∀{is:dD} {ws:aH} {σ σ1:MSt},W7 is ws σ=sO σ1->ws.length=is.length
 |[],[],_,_,_=>rfl
 |i::is,w::ws,σ,σ1,e=>by
  have:=Qbu (is:=is) (ws:=ws) e;simp[this]
 |[],_::_,_,_,e=>fN e
 |_::_,[],_,_,e=>fN e
theorem VU{is:dD}(o:gR)(h:PGs X es (Qd9 is))(n:jp0=is.length)(m:(assignEach es X.env).findIdx? (·.1)=nO):PMG X (ze7 k) (ZS is):=
 Qjx (QoE o h n m) λv p H C g=>by
  obtain⟨R,d,h,w,f,b,st,rw,e,q⟩:=g;unfold ZS at e;split at e
  ·rename_i r;obtain⟨ad,i,rfl,l,c⟩:=b.tupAt rw;exact⟨ad,i,rfl,l,by show sK c;exact Qbu e,Qdl e c st λa j=>q R H a c9 b j⟩
  ·cases e
noncomputable def Qhw(ws:aH)(h:MH):bJ:=match ws with
 |[aL i,aL j]=>sO (.int zv9,h)
 |_=>nO
noncomputable def QmL(ws:aH)(h:MH):bJ:=match ws with
 |[aL i,aL j]=>sO (.int zw0,h)
 |_=>nO
noncomputable def Qg9(ws:aH)(h:MH):bJ:=match ws with
 |[aL i]=>sO (aL i,h)
 |[.bl b]=>sO (.int (tF b),h)
 |_=>nO
section
variable{X:Cx}
theorem Um(j:gR):CallR X (.builtin "max") (Fs X.K Qhw):=by
 intro a s b H c d Q I r q;refine QeE j a s b H c d Q I r ?_;obtain⟨R,h,l,w,m,f,rw,e,k⟩:=q;unfold Qhw at e;split at e
 ·show jy5;exact⟨_,_,jy6,k R H _ c9 f kM⟩
 ·cases e
theorem Qfe(j:gR):CallR X (.builtin "min") (Fs X.K QmL):=by
 intro a s b H c d Q I r q;refine Qfc j a s b H c d Q I r ?_;obtain⟨R,h,l,w,m,f,rw,e,k⟩:=q;unfold QmL at e;split at e
 ·show jy5;exact⟨_,_,jy6,k R H _ c9 f kM⟩
 ·cases e
theorem Uq:CallR X zM2 (Fs X.K Qg9):=by
 intro a s d H f g Q I r q;refine QfD a s d H f g Q I r ?_;obtain⟨R,h,i,w,j,c,rw,e,k⟩:=q;unfold Qg9 at e;split at e
 ·show nY e b;exact .inl ⟨_,by rw[b.int_eq],k R H _ c9 c kM⟩
 ·show nY e b;exact .inr ⟨_,by rw[b.bl_eq],k R H _ c9 c kM⟩
 ·cases e
noncomputable def rep(x:Str)(n:Int):Str:=⟨((List.replicate n.toNat x.cps.toList).flatten).toArray⟩
theorem Qga:∀(l:List (Array Nat)) (a:PB),l.foldl (·++·) a=(a.toList++(l.map Array.toList).flatten).toArray:=by
 intro l
 induction l with
 |nil=>
  intro a;simp
 |cons b l c=>
  intro a;rw[Fi,c];simp
theorem QjI(x:Str)(n:Int):(⟨(List.replicate n.toNat x.cps).foldl (·++·) #[]⟩:Str)=rep x n:=by
 unfold rep;rw[Qga];simp
theorem QiL(x:Str)(h:n<1):Str.empty=rep x n:=by
 unfold rep;rw[show n.toNat=0 by lia];rfl
theorem Qlb(x:Str):x=rep x 1:=by
 unfold rep;simp
theorem Qlx(n:Int)(h:(x.length==0)=true):x=rep x n:=by
 unfold rep
 have:x.cps=#[]:=by
  have:x.cps.size=0:=by simpa[Str.length]using h
  exact IL this
 obtain⟨c⟩:=x;show k7;subst this;simp
noncomputable def JV(a b:W)(h:MH):bJ:=match a,b with
 |aJ x,aL n=>if n<1000/\-1000<n/\x.length<1000 then sO (.str (rep x n),h)else nO
 |a,b=>Qo5 a b h
theorem Qma:OpR X HZ (λx y H Q=>∃z n,x=aJ z/\y=aL n/\(n<1000/\-1000<n/\z.length<1000)/\Q (.str (rep z n)) H):=by
  intro b s e H x y v u Q I j i h;obtain⟨z,n,r,p,⟨D,C,B⟩,q⟩:=h;subst r p;show aO t j;show aO A i
  have l:z.length*n.toNat<1000000:=by
    calc z.length*n.toNat<=999*999:=Ij aQ aQ
      _<1000000:=a'
  refine PySem.P.mul_str (by rw[decide_eq_false aQ,decide_eq_false aQ];rfl) (λa _=>?_) (λa _=>?_) ?_
  · have:(2^63-1)/n >= 1000:=by
      rw[ge_iff_le,Int.le_ediv_iff_mul_le aQ];lia
    lia
  · unfold Builtin.Str.tooLong
    exact decide_eq_false (by show¬_;have:Bf:=a'
                              lia)
  · have done:∀(y:Str) (f:Tok) (d:Shared),y=rep z n->iG b e H d->EP X b e Q (.str y f) d:=λy f d o w=>⟨aJ y,H,w,cN,qY o q⟩
    split
    · rename_i g;exact⟨a',done _ _ _ (QiL z g) A3⟩
    · split
      · rename_i g c;rw[Dn]at c;refine done _ _ _ ?_ I
        show kP c
        · have:n=1:=cL c
          subst this;exact Qlb z
        · exact Qlx n c
      · refine⟨?_,done _ _ _ (QjI z n) A3⟩;rw[QjI]
        have m:(rep z n).length=n.toNat*z.length:=by
          unfold rep Str.length;simp
        rw[m,Nat.mul_comm];have:Bf:=a'
        exact Nv (Np (EG l aA) yY)
theorem Jw:OpR X HZ (F2 X.K JV):=by
 intro c s d H x y v u Q I g f q;obtain⟨R,h,a,b,w,n,i,l,j,e,k⟩:=q;unfold JV at e;split at e
 ·split at e
  ·show eF m e;exact Qma c s d H x y v u Q I g f ⟨_,_,l.str_eq,j.int_eq,m,k R H _ c9 i wN⟩
  ·cases e
 ·exact Qj9 c s d H x y v u Q I g f ⟨R,h,a,b,w,n,i,l,j,e,k⟩
#print "-"
section
variable{X:Cx}{elt tg iter c:Expr}{scope:Scope}{pos pos' spos:Pos}{cl:yT}{Nb:aD}{cp:lU}{mi:MI}{b:MG}{mt:MT}{me m:ME}{fin:aH->MH->bJ}{i:Nat}{x:Str}{e:Expr}
theorem Qf7{K:Nd}(q:tS K (Q6 i m) D σ H):tI K m σ H λv f=>QeQ i v σ f D.nx:=by
 obtain⟨R,a,h,r,l,s,e,k⟩:=q;show sR w n p o e;exact⟨R,a,h,w,n,l,s,p,λR1 f v g d j=>k R1 f _ g d ((s.mono g).set j)⟩
theorem W8(hN:X.N.Nodup)(l:kJ)(u:n')(n:nW)(y:zg3)(A:gR)(B:sT)(hi:Bk)(w:∀a d C ex f,PMG (j4 a d f) tg b)
  (z:∀a d C ex f,PM (j4 a d f) elt me) (v:q8) (j:swapsWith zo6 (sO za0) spos.line X.env=pure true) :
  PMS X (.Assign zN0 zo6 spos) (Q6 i jy2):=
 Xn (Qe6 (g:=zl0) (te:=zl1) (tt:=tIT X.K KS) hN l u n j A B hi w (λa d C ex f o s D H Q I q=>wpAny_tests_nil (by
  obtain⟨R,p,h,t,G,r,st,e,k⟩:=q;cases e
  exact⟨H,I,k R H c9 r⟩)) z v) λ_ _ _ q=>G1 y (Qf7 q)
theorem QaG(hN:X.N.Nodup)(l:kJ)(p:n')(n:nW)(v:zg3)(y:gR)(B:sT)(hi:Bk)(u:∀a d C ex f,PMG (j4 a d f) tg b)
  (r:∀a d C ex f,PMT (j4 a d f) c mt)
  (w:∀a d C ex f,PM (j4 a d f) elt me) (t:q8) (j:swapsWith zo3 (sO za0) spos.line X.env=pure true) :
  PMS X (.Assign zN0 zo3 spos) (Q6 i zw4):=
 Xn (Qe6 (g:=zl0) (te:=zl1) (tt:=tIT X.K mt) hN l p n j y B hi u (λa d C ex f h s o H Q I q=>wpAny_tests_one (r a d C ex f h s o H Q I q)) w t) λ_ _ _ q=>G1 v (Qf7 q)
#print "-"
set_option checkBinderAnnotations false in
noncomputable def ob[f:b->kA a](x:kA b):kA a:=x.bind f
set_option checkBinderAnnotations false in
noncomputable def om[f:b->a](x:kA b):kA a:=x.map f
@[simp]theorem Qk8:@ob _ _ f pU=f a:=aW
@[simp]theorem Qp3:@om _ _ f pU=sO (f a):=aW
noncomputable def Qp1(b:SM):MF->rG
 |.nx σ h=>fJ b
 |r=>sO r
section
variable{σ σ':MSt}{h h':MH}{a b:SM}{m ma mb mc:ME}{t u:MT}{ms:MA}{w x y:W}{ws:aH}
@[simp]theorem QqF:Qp1 b (.nx σ h)=fJ b:=aW
@[simp]theorem Qqy:Qp1 b (.rt w h)=sO (.rt w h):=aW
@[simp]theorem Qtk:QG a b σ h=@ob _ _ (Qp1 b) Cu:=by
 unfold QG;refine congrArg (λc=>@ob _ _ c Cu) (funext (fX r));cases r<;>rfl
@[simp]theorem Qsd:fJ Q7=m8 σ h:=aW
@[simp]theorem QsY:ZU m σ h=@om _ _ (λp=>.rt p.1 p.2) pN:=aW
noncomputable def onB(a b:SM)(σ:MSt)(p:Bool×MH):rG:=jk2 σ
@[simp]theorem QqY(c:Bool):onB a b σ (c,h)=if pX then fJ a else fJ b:=aW
@[simp]theorem QtG:zQ6=@ob _ _ (onB a b σ) Cv:=by
 unfold Ju;show Rp
@[simp]theorem Qrv:VQ m σ h=@om _ _ (λp=>.nx σ p.2) pN:=aW
@[simp 500]theorem QtZ:Q6 i m σ h=@om _ _ (λp=>SR σ p) pN:=aW
@[simp]theorem QsE:Qjn i f m σ h=@ob _ _ (λx=>@ob _ _ (λp=>@om _ _ (λq=>SR σ q) (f x.1 p.1 p.2)) pN) (Qe i σ h):=by
 unfold Qjn Qe
 rcases σ[i]? with _|_|x<;>rfl
@[simp 1100]theorem QtD{v0 x:cH}{r:MSt}:List.set (v0::r) 0 x=x::r:=aW
@[simp 1100]theorem QtJ{v0 v1 x:cH}{r:MSt}:List.set (v0::v1::r) 1 x=v0::x::r:=aW
@[simp 1100]theorem QtX{v0 v1 c x:cH}{r:MSt}:List.set (v0::v1::c::r) 2 x=v0::v1::x::r:=aW
@[simp 1100]theorem Qt4{v0 v1 c d x:cH}{r:MSt}:List.set (v0::v1::c::d::r) 3 x=v0::v1::c::x::r:=aW
@[simp 1100]theorem QsN{v0 v1 d c v4 x:cH}{r:MSt}:List.set (v0::v1::d::c::v4::r) 4 x=v0::v1::d::c::x::r:=aW
@[simp 1100]theorem Qti{v0 v1 d c v4 v5 x:cH}{r:MSt}:List.set (v0::v1::d::c::v4::v5::r) 5 x=v0::v1::d::c::v4::x::r:=aW
@[simp 1100]theorem QtI{v0 v1 d c v4 v5 v6 x:cH}{r:MSt}:List.set (v0::v1::d::c::v4::v5::v6::r) 6 x=v0::v1::d::c::v4::v5::x::r:=aW
@[simp 1100]theorem QtY{v0 v1 d c v4 v5 v6 v7 x:cH}{r:MSt}:List.set (v0::v1::d::c::v4::v5::v6::v7::r) 7 x=v0::v1::d::c::v4::v5::v6::x::r:=aW
@[simp 1100]theorem Qtr{v0 v1 d c v4 v5 v6 v7 e x:cH}{r:MSt}:List.set (v0::v1::d::c::v4::v5::v6::v7::e::r) 8 x=v0::v1::d::c::v4::v5::v6::v7::x::r:=aW
@[simp 1100]theorem Qt0{v0 v1 e d v4 v5 v6 v7 c f x:cH}{r:MSt}:List.set (v0::v1::e::d::v4::v5::v6::v7::c::f::r) 9 x=v0::v1::e::d::v4::v5::v6::v7::c::x::r:=aW
@[simp]theorem Qo4:Qe 0 (sO o::r) h=cP o h:=aW
@[simp]theorem Qsr:Qe 1 (v0::uI) h=cP o h:=aW
@[simp]theorem QrH:Qe 2 (v0::v1::uI) h=cP o h:=aW
@[simp]theorem QrT:Qe 3 (v0::v1::c::uI) h=cP o h:=aW
@[simp]theorem QrZ:Qe 4 (v0::v1::d::c::uI) h=cP o h:=aW
@[simp]theorem Qsj:Qe 5 (v0::v1::d::c::v4::uI) h=cP o h:=aW
@[simp]theorem Qsb:Qe 6 (v0::v1::d::c::v4::v5::uI) h=cP o h:=aW
@[simp]theorem Qsv:Qe 7 (v0::v1::d::c::v4::v5::v6::uI) h=cP o h:=aW
@[simp]theorem Qrs:Qe 8 (v0::v1::d::c::v4::v5::v6::v7::uI) h=cP o h:=aW
@[simp]theorem QrL:Qe 9 (v0::v1::e::d::v4::v5::v6::v7::c::uI) h=cP o h:=aW
@[simp 400]theorem Qru:Qe (i+1) (o::r) h=Qe i r h:=by
 unfold Qe;rw[Il]
@[simp]theorem s_c:mC w σ h=cP w h:=aW
@[simp 500]theorem Qrd:Qi f ma mb σ h=@ob _ _ (λp=>@ob _ _ (λq=>zc7) (mb σ p.2)) (ma σ h):=aW
@[simp]theorem Qt6:mUn f ma σ h=@ob _ _ (λp=>f p.1 p.2) (ma σ h):=aW
@[simp]theorem Qtn:mFn f ms σ h=@ob _ _ (λp=>f p.1 p.2) (ms σ h):=aW
@[simp]theorem Qso:QD n g ms σ h=@ob _ _ (λp=>if p.1.length=n then g p.1 p.2 else nO) (ms σ h):=aW
@[simp]theorem QpW:Ql σ h=sO ([],h):=aW
@[simp 600]theorem Qr9:Qi f ma xN σ h=@ob _ _ (λp=>f p.1 w p.2) (ma σ h):=aW
@[simp 600]theorem QpZ:Qb xN ms σ h=@ob _ _ (λq=>sO (w::q.1,q.2)) (ms σ h):=aW
@[simp 610]theorem Qqf:Qb m Ql σ h=@ob _ _ (λp=>sO ([p.1],p.2)) pN:=aW
@[simp 620]theorem QpI:Qb xN Ql σ h=sO ([w],h):=aW
@[simp 600]theorem QrR:Q6 i xN σ h=sO (.nx (σ.set i xM) h):=aW
@[simp 500]theorem Qno:Qb m ms σ h=@ob _ _ (λp=>@ob _ _ (λq=>sO (p.1::q.1,q.2)) (ms σ p.2)) pN:=aW
noncomputable def asB(p:W×MH):Bg:=match p.1 with|.bl b=>sO (b,p.2)|_=>nO
@[simp]theorem QrA(c:Bool):asB (.bl c,h)=cP c h:=aW
@[simp 500]theorem Qsu:QB m σ h=@ob _ _ asB pN:=aW
@[simp]theorem QrU:VN t σ h=@om _ _ (λp=>(!p.1,p.2)) Cv:=by
 unfold VN
 first|rfl|(cases fJ t<;>rfl)
noncomputable def Qn7(u:MT)(σ:MSt)(p:Bool×MH):Bg:=if p.1=true then u σ p.2 else sO (false,p.2)
noncomputable def Qsi(u:MT)(σ:MSt)(p:Bool×MH):Bg:=if p.1=true then sO (true,p.2)else u σ p.2
@[simp]theorem Qof(c:Bool):Qn7 u σ (c,h)=if pX then fJ u else sO (false,h):=aW
@[simp]theorem QpD(c:Bool):Qsi u σ (c,h)=if pX then sO (true,h)else fJ u:=aW
@[simp 500]theorem QrO:KG t u σ h=@ob _ _ (Qn7 u σ) Cv:=by
 unfold KG;show Rp
@[simp 500]theorem Qtw:UW t u σ h=@ob _ _ (Qsi u σ) Cv:=by
 unfold UW;show Rp
noncomputable def Qsk(ma mb:ME)(σ:MSt)(p:Bool×MH):bJ:=if p.1=true then ma σ p.2 else mb σ p.2
@[simp]theorem Qpv(c:Bool):Qsk ma mb σ (c,h)=if pX then ma σ h else mb σ h:=aW
@[simp]theorem Qt8:mIf t ma mb σ h=@ob _ _ (Qsk ma mb σ) Cv:=by
 unfold mIf;show Rp
@[simp]theorem QtT:KW m σ h=@ob _ _ (λp=>@om _ _ (λb=>(b,p.2)) (QjL p.2 p.1)) pN:=by
 unfold KW;rfl
@[simp]theorem Qun:mMt T f m ms σ h=@ob _ _ (λp=>if tyW p.2 T p.1=true then@ob _ _ (λq=>zc7) (ms σ p.2)else nO) pN:=aW
#print "-"
section
variable{h:MH}{i j:Int}{x y:Str}{ws us:aH}{w:W}
@[simp]theorem Qtb:Zd d3 jG h=Ty:=aW
@[simp]theorem QtN:Qig d3 jG h=sO (.int (i-j),h):=aW
@[simp]theorem Quk:wLt d3 jG h=sO (BK i j,h):=aW
@[simp]theorem Qug:wLe d3 jG h=sO (zA3,h):=aW
@[simp]theorem Qt9:wGt d3 jG h=sO (BK j i,h):=aW
@[simp]theorem Qtp:GM d3 h=sO (.int (-i),h):=aW
@[simp]theorem Qr8:Qcf d3 jG h=Ty:=aW
@[simp]theorem Qs8(c:0<j):JL d3 jG h=zG5:=Ql9 c
@[simp]theorem Qth(c:0<j)(a:Mv):V8 d3 jG h=zG4:=QkX (iI c a)
@[simp]theorem Qr6(c:yD<j)(a:j<18446744073709551616):JV d3 jG h=TL:=Qfo (.inr (iI c a))
@[simp]theorem QrJ(c:yD<i)(a:i<18446744073709551616):JV d3 jG h=TL:=Qfo (.inl (iI c a))
theorem QnX(c:j<1000/\-1000<j/\x.length<1000):JV cM jG h=sO (.str (rep x j),h):=bW c
@[simp]theorem QtW:Qhw [aL i,aL j] h=sO (.int zv9,h):=aW
@[simp]theorem QtH:QmL [aL i,aL j] h=sO (.int zw0,h):=aW
@[simp]theorem QsG:Xf ws h=if vL then sO (fA,h)else nO:=aW
@[simp]theorem QtO:JB ws h=if vL then sO (eZ,h)else nO:=aW
@[simp]theorem Qt3:WE ws h=if vL then sO (oG,h++[eZ])else nO:=aW
@[simp]theorem QsT:wIx wT d3 h=RW:=aW
@[simp]theorem Qtc:wIx kO d3 h=RW:=aW
@[simp]theorem QsX:wIx (.frz ws) d3 h=RW:=aW
@[simp]theorem QtP:wIx (aC n) d3 h=@ob _ _ (λ(ws:aH)=>RW) RA:=aW
@[simp]theorem Qse:JT [fA] h=sO Bb:=aW
@[simp]theorem Qsa:JT [eZ] h=sO Bb:=aW
@[simp]theorem QrS:JT [oP] h=sO Bb:=aW
@[simp]theorem Qsp:JT [aG n] h=@om _ _ (λ(ws:aH)=>Bb) RA:=aW
@[simp]theorem QrY:JT [aJ x] h=if lT then sO (zR x,h)else nO:=aW
theorem Jx{xs:g8}{n:Nat}:atI xs eL=xs[n]?:=by
 cases e:xs[n]? with
 |some x=>exact W2 e
 |none=>
  unfold atI ixN;have:xs.length<=n:=LB.mp e;rw[if_pos aQ];rw[if_neg aQ];rfl
@[simp]theorem Qul:atI xs 0=xs[0]?:=Jx (n:=0)
@[simp]theorem Qua:atI xs 1=xs[1]?:=Jx (n:=1)
@[simp]theorem Qr2{a:Type}{xs:g8}{y:a}:zN1 y=sO y:=Qhl xs y
@[simp]theorem QrD:ixN (n+1) (-1)=sO n:=by unfold ixN;rw[if_neg aA,if_pos aQ];congr 1;lia
noncomputable def Qos(o i v:W)(σ:MSt)(h:MH):rG:=match o,i with
 |aG n,aL k=>match h[n]? with
  |some oN=>@om _ _ (λj=>.nx σ (h.set n (.lst (a.set j v)))) (ixN a.length k)
  |_=>nO
 |_,_=>nO
@[simp]theorem QtF:Qc3 mo mi a σ h=@ob _ _ (λv=>@ob _ _ (λo=>@ob _ _ (λi=>Qos o.1 i.1 v.1 σ i.2) (mi σ o.2)) (mo σ v.2)) Cu:=aW
@[simp]theorem Qq9:Qos (aC n) d3 v σ h=match h[n]? with
  |some iD=>@om _ _ (λj=>.nx σ (h.set n (.lst (xs.set j v)))) (ixN xs.length i)
  |_=>nO:=aW
@[simp]theorem Qr5{w:W}:Qme (sO (.rt w h))=cP w h:=aW
@[simp]theorem QpN{n:Nat}{w:W}:ZI (aC n) [w] h=match h[n]? with|some iD=>if xs.length<sizeLine then sO (.non,h.set n (.lst (xs++[w])))else nO|_=>nO:=aW
@[simp]theorem QpA{n:Nat}{w:W}:Gv (aC n) [w] h=match h[n]? with|some iD=>@ob _ _ (λys=>if S2 then jk3 else nO) (loW h w)|_=>nO:=aW
@[simp]theorem QsC:loW h kO=sO ws:=aW
@[simp]theorem QtR:QoR (aC n) [] h=match h[n]? with|some iD=>@om _ _ (λw=>(w,h.set n (.lst xs.dropLast))) (xs[xs.length-1]?)|_=>nO:=aW
@[simp]theorem Qts:tyW h T (aC n)=match h[n]? with|zc5=>Pv|zQ1=>Px|zQ2=>Px|_=>false:=aW
@[simp]theorem Qtu:tyW h T cM=(T=="str"):=aW
@[simp]theorem QrV:QjL h (aC n)=match h[n]? with|some kO=>sO zC|yW=>sO (!kvs.isEmpty)|_=>nO:=aW
@[simp]theorem Qr3:QjL h pP=sO b:=aW
@[simp]theorem QpK:J8 [eZ] h=sO (fA,h):=aW
@[simp]theorem QpC:J8 [aG n] h=@om _ _ (λ(ws:aH)=>(fA,h)) RA:=aW
@[simp]theorem Quc:mSl c a b σ h=@ob _ _ (λp=>@ob _ _ (λq=>@ob _ _ (λr=>wSl p.1 q.1 r.1 r.2) (b σ q.2)) (a σ p.2)) (c σ h):=aW
@[simp]theorem Quh:Ji σ h=sO (nO,h):=aW
noncomputable def asI(p:W×MH):Option (dB×MH):=match p.1 with|aL i=>sO (sO i,p.2)|_=>nO
@[simp]theorem QqL:asI (aL i,h)=sO (sO i,h):=aW
@[simp]theorem Que:ZW m σ h=@ob _ _ asI pN:=aW
@[simp]theorem QsJ{lo hi:dB}:wSl wT lo hi h=sO (.tup zb8,h):=aW
@[simp]theorem Qs6{lo hi:dB}:wSl kO lo hi h=sO (.lst zb8,h):=aW
@[simp]theorem QtA{lo hi:dB}:wSl (aC n) lo hi h=@om _ _ (λ(ws:aH)=>(.lst zb8,h)) RA:=aW
@[simp]theorem Qj5:Zd wT (.tup us) h=if ws.length+us.length<=sizeLine then sO (.tup (ws++us),h)else nO:=aW
@[simp]theorem Qeu:Zd cM lE h=if yO<=sizeLine then zE4 else nO:=aW
@[simp]theorem QtK:wIs a .non h=sO (.bl (Yi a),h):=aW
@[simp]theorem QpE:Yi .non=true:=aW
@[simp]theorem QtC:QcG [a,.ty T] h=if Wn T=true then@om _ _ (λk=>(.bl (JW k T),h)) (Qdu h a)else nO:=aW
@[simp]theorem QtM:Qdu h d3=sO "int":=aW
@[simp]theorem Qt5:Qdu h cM=sO "str":=aW
@[simp]theorem Qto:Qdu h wT=sO "tuple":=aW
@[simp]theorem Qui:Wn "str"=true:=a'
@[simp]theorem Quj:Wn "int"=true:=a'
@[simp]theorem Qub:Wn "bool"=true:=a'
@[simp]theorem Quf:Wn "tuple"=true:=a'
#print "-"
mutual
noncomputable def pln:rX
 |fA=>WU ws
 |eZ=>WU ws
 |.frz _=>false
 |xQ=>false
 |.ty _=>false
 |_=>true
noncomputable def WU:aH->Bool
 |[]=>true
 |w::ws=>pln w&&WU ws
end
mutual
noncomputable def dep:W->Nat
 |fA=>UN ws+1
 |eZ=>UN ws+1
 |_=>1
noncomputable def UN:aH->Nat
 |[]=>0
 |w::ws=>max (dep w) (UN ws)
end
mutual
theorem K8(h:MH):∀(w:W) (n:Nat),zi5->dep w<=n->hV w=sO w
 |.non,n+1,_,_=>rfl
 |.bl _,n+1,_,_=>rfl
 |oQ,n+1,_,_=>rfl
 |k9,n+1,_,_=>rfl
 |fA,n+1,p,d=>by
  show Rc;show Re;show(Vi hH ws).map W.tup=_;rw[KC h ws n p aQ];rfl
 |eZ,n+1,p,d=>by
  show Rc;show Re;show(Vi hH ws).map W.lst=_;rw[KC h ws n p bL];rfl
 |.frz _,_,p,_=>sP
 |xQ,_,p,_=>sP
 |.ty _,_,p,_=>sP
 |.non,0,_,d=>by show Re;lia
 |.bl _,0,_,d=>Sj
 |oQ,0,_,d=>Sj
 |k9,0,_,d=>Sj
 |.tup _,0,_,d=>by show Re;lia
 |.lst _,0,_,d=>Sj
theorem KC(h:MH):∀(ws:aH) (n:Nat),zi7->UN ws<=n->Vi hH ws=sO ws
 |[],_,_,_=>rfl
 |w::ws,n,p,d=>by
  unfold WU at p;unfold UN at d;rw[NL]at p;rw[Vi,K8 h w n p.1 (Ng (Nat.le_max_left _ _) d),Ni,KC h ws n p.2 (Ng (Nat.le_max_right _ _) d)];rfl
end
mutual
theorem Qdj:∀(w:W),zi5->eqW w w=true
 |.non,_=>by unfold eqW;rfl
 |.bl _,_=>zC8
 |oQ,_=>zC8
 |k9,_=>zC8
 |fA,p=>jb7
 |eZ,p=>jb7
 |.frz _,p=>sP
 |xQ,p=>sP
 |.ty _,p=>sP
theorem Ua:∀(ws:aH),zi7->K5 ws ws=true
 |[],_=>TV
 |w::ws,p=>by
  unfold WU at p;rw[NL]at p;unfold K5;rw[Qdj w p.1,Ua ws p.2];rfl
end
theorem QoL(d:zi6)(c:pln b=true)(f:zl3)(e:dep b<=40):wEq a b h=sO (.bl Pl,h):=by
 unfold wEq;rw[K8 h a 40 d f,K8 h b 40 c e];rfl
theorem Qsx(d:zi6)(c:pln b=true)(f:zl3)(e:dep b<=40):wNe a b h=sO (.bl (!eqW a b),h):=by
 unfold wNe;rw[K8 h a 40 d f,K8 h b 40 c e];rfl
@[simp]theorem QpQ:wEq d3 jG h=MZ i j:=Qky i j h
@[simp]theorem Qqw:wEq cM lE h=MZ x y:=Qms x y h
@[simp]theorem QsR:wNe d3 jG h=sO (.bl (!(i==j)),h):=Qkk i j h
@[simp]theorem Qt2:wNe cM lE h=sO (.bl (!(x==y)),h):=jq6
mutual
theorem GV:∀(w:W),zi5->u7
 |.non,_=>rfl
 |.bl _,_=>rfl
 |oQ,_=>rfl
 |k9,_=>rfl
 |fA,p=>jb8
 |eZ,p=>jb8
 |.frz _,p=>sP
 |xQ,p=>sP
 |.ty _,p=>sP
theorem Kq:∀(ws:aH),zi7->wP
 |[],_=>rfl
 |w::ws,p=>by
  unfold WU at p;rw[NL]at p;unfold Vj;rw[GV w p.1,Kq ws p.2];rfl
end
mutual
theorem Qcp(f:Nat->cH):∀(w:W),u7->th f w=sO w
 |.non,_=>rfl
 |.bl _,_=>rfl
 |oQ,_=>rfl
 |k9,_=>rfl
 |.ty _,_=>rfl
 |fA,p=>zo7
 |eZ,p=>zo7
 |oP,p=>zo7
 |xQ,p=>js3
theorem Xl(f:Nat->cH):∀(ws:aH),wP->ths f ws=sO ws
 |[],_=>rfl
 |w::ws,p=>by
  show vQ p;unfold ths;rw[Qcp f w p.1,Xl f ws p.2];rfl
end
theorem QC(b:wP)(e:m ws []=cP w g)(hw:u7):zN2=cP w h:=by
 have d:zC9:=by
  generalize 0=k;clear e
  induction ws with
  |nil=>rfl
  |cons a r c=>
   show vQ b;have:=c b.2;show Rt
 show zX8 d;rw[if_pos ⟨Dw,aY⟩,Qcp _ w hw];simp[ZP]
theorem WQ(b:wP)(e:m ws []=sO (aG j,g))(i:g[j]?=sO (.lst us))(d:Cf):zN2=sO (Ap,h):=by
 have f:zC9:=by
  generalize 0=k;clear e
  induction ws with
  |nil=>rfl
  |cons a r c=>
   show vQ b;have:=c b.2;show Rt
 show zX8 f;rw[if_pos ⟨Dw,aY⟩]
 have:th (res (GR [] [] h.length) g 3) (aC j)=sO (.lst us):=by
  unfold th res;simp only[GR,Yas,Yat,YaO,i];rw[Xl _ us d];rfl
 rw[this];simp[ZP]
theorem QiG(b:wP)(u:h[n]?=sO o)(t:wQ)(e:m (uT::ws) [o]=sO (.ref (j+1),o'::g))(v:g[j]?=sO (.lst vs))(p:Vj vs=true)(i:∃us,o'=Ap/\Cf):box frN m (aG n::ws) h=sO (.lst vs,h.set n o'):=by
 obtain⟨us,rfl,c⟩:=i
 have s:∀k,Wf k ws=sO (ws,[]):=by
  clear e
  induction ws with
  |nil=>intro k;rfl
  |cons a r l=>
   intro k;show vQ b;have:=l b.2 k;show Rt
 unfold box
 have d:Wf 0 (aG n::ws)=sO (uT::ws,[n]):=by
  unfold Wf;rw[s];rfl
 rw[d,Ni];unfold Qla;rw[if_pos aF];have f:QdY h n=sO o:=by unfold QdY;rw[u];simp[t]
 simp only[Vi,f,Ni,Dp,e,frN,NX];rw[if_pos ⟨Dw,aY⟩]
 have:th (res (GR [n] [] h.length) (Ap::g) 3) (.ref (j+1))=sO (.lst vs):=by
  unfold th res;simp only[GR,Il,Yas,Yat,YaO,v];rw[Xl _ vs p];rfl
 rw[this];simp[ZP,L6,Vi,thO,Xl _ us c]
theorem QgG{os os':pR}(s:Wf 0 args=Pe)(hd:ns.Nodup)(u:T5)(e:m as os=sO (w,os'++g))(v:os'.length=ns.length)
  (c:∀o∈os',∃us,o=Ap/\Cf) (hw:th zq3 w=sO w'):zI0=sO (w',ZP ns os' h):=by
 show jc5 u;rw[zU7 y];show(th zq3 w).bind _=_;rw[hw,Ni];show(Vi Ru zw5).bind (λos=>(Vi Ru []).map λus=>(w',ZP ns os h++us))=_
 have:Vi Ru zw5=sO os':=by
  rw[<-v]
  have key:∀(k:Nat) (a:pR),(∀i o,a[i]?=sO o->(os'++g)[k+i]?=sO o)->(∀o∈a,∃us,o=Ap/\Cf)->Vi Ru js4=sO a:=by
   intro k a
   induction a generalizing k with
   |nil=>intro _ _;rfl
   |cons x a n=>
    intro f d;obtain⟨us,r,t⟩:=d x NG;rw[N6,IF];unfold Vi;have l:=f 0 x rfl;rw[Yag]at l;rw[l,Ni,n (k+1) (λi o b=>by have:=f (i+1) o (cD b);show jg2) (iV o p d),r];show((ths _ us).map MO.lst).bind _=_;rw[Xl _ us t];rfl
  rw[IM];exact key 0 os' (λi o b=>by rw[NU,Ew (cG b)];exact b) c
 rw[this];simp[Vi]
theorem Vo(f:W->W)(hi:zw6)(a:Sy)(c:∀w∈items,me BM h=xD w)(b:zx1) :
  Zc fin mi cp d9 KS me σ h=fin (items.map f) h:=by
 show jg3;rw[U7 (p:=zk8) (f:=f) items [] o zd3 (λw hw _=>c w hw) (cD b),O3.mpr zd3];rfl
theorem UC{mt:MT}{me:ME}{h:MH}(f:W->W)(p:rX)(hi:zw6)(a:Sy)(b:∀w∈items,mt BM h=sO (p w,h))(d:∀w∈items,p w=true->me BM h=xD w)(c:zx1) :
  Zc fin mi cp d9 mt me σ h=fin ((items.filter p).map f) h:=by
 show jg3;rw[U7 (p:=p) (f:=f) items [] o b d (cD c)];simp
theorem JD(P:zD0):∀(r:aH) (n:Nat) (σ:MSt) (h:MH),P n σ h ->
  (∀(j:Nat) (w:W),r[j]?=sO w->∀σ h,P (n+j) σ h->∃σ1,zJ7/\∃a e,(Pg=m8 a e\/Pg=sO (.ct a e))/\P (n+j+1) a e) ->
  ∃c h',Kf items nO b body r σ h=m8 c h'/\zK2 r:=by
 intro r
 induction r with
 |nil=>
  intro n σ h d _;exact⟨σ,h,Qih,d⟩
 | cons w r m=>
  intro n σ h d g;obtain⟨σ1,s,a,e,f,l⟩:=g 0 w rfl σ h d
  obtain⟨c,h',p,i⟩:=m (n+1) a e l λj x o σ h d=>by
   have:=g (j+1) x (cD o) σ h (zq9 d);show zn8
  refine⟨c,h',?_,by rw[N6,show n+(eY r)=n+1+r.length by lia];exact i⟩;rw[Kf,vU,s,Ni]
  rcases f with f|f<;>rw[f]<;>exact p
noncomputable def eqS(y:Str)(p:W×MH):Bg:=@ob _ _ asB (wEq p.1 lE p.2)
noncomputable def eqN(j:Int)(p:W×MH):Bg:=@ob _ _ asB (wEq p.1 jG p.2)
@[simp 650]theorem Qrw:QB (Qi wEq a (mC lE)) σ h=@ob _ _ (eqS y) Cu:=by
 unfold QB Qi mC eqS ob;cases fJ a<;>rfl
@[simp 650]theorem Qsc:QB (Qi wEq a (mC jG)) σ h=@ob _ _ (eqN j) Cu:=by
 unfold QB Qi mC eqN ob;cases fJ a<;>rfl
@[simp]theorem Qri:eqS y (aJ x,h)=sO (x==y,h):=by unfold eqS;rw[Qqw];rfl
@[simp]theorem Qqc:eqN j (aL i,h)=sO (i==j,h):=by unfold eqN;rw[QpQ];rfl
#print "-Mi"
namespace Mi
open L2
noncomputable def Qdi(ws:aH)(h:MH):bJ:=match ws with
 |[fA]=>sO (oG,h++[eZ])
 |[a]=>(lsW h a).map λws=>(oG,h++[eZ])
 |_=>nO
noncomputable def Qtl(a:W)(ws:aH)(h:MH):bJ:=match a,ws with
 |aG n,[.int 0]=>match h[n]? with|some (.lst (x::b))=>sO (x,h.set n (.lst b))|_=>nO
 |_,_=>nO
section
variable{X:Cx}
theorem Qcb:CallR X M2 (Fs X.K Qdi):=by
 intro d s u H a x Q I r q;refine Wk d s u H a x Q I r ?_;obtain⟨R,h,D,w,E,f,rw,e,k⟩:=q;unfold Qdi at e;split at e
 ·show nY e l;show p4 a m j f l;refine⟨ad,a,rfl,gY m,bQ p n⟩;obtain⟨t,g,c,b⟩:=zV7
  exact k t _ _ g c b
 ·show dI C A z e;show nY z l;show qL a m j f l A;refine⟨ad,a,rfl,dU m,bQ p n⟩;obtain⟨t,g,c,b⟩:=zV7
  exact k t _ _ g c b
 ·cases e
#print "-"
theorem QeP{st:jX}:QgJ X st λ_ _=>nO:=λa s c H D I q=>by
 obtain⟨R,b,h,r,d,st,e,k⟩:=q;cases e
section
open PySem.AutoSeq1
theorem QdO(l:Addr)(c:dC)(n:Nat)(b:Addr)(a:dC)(t:Nat)(e:Obj)(v:e.cls=jO)(hd:e.data=.seq a t)(u:¬(!c.isEmpty&&Builtin.List.listTooLong (c.size+a.size))=true)(j:c.size<=sizeLine)(i:c.size+a.size<=sizeLine+1) :
  Meets (Builtin.«list.extend» ⟨[aG l,aG b],[]⟩) (λ_ R s=>bK l=sO { cls:=eC,dict:=nO,data:=.seq c n,slots:=#[] }/\bK b=sO e /\
   R (.ok (.ret Value.none)) { s with heap:=s.heap.update l (Obj.mapSeq λx=>x++a),toks:=s.toks }):=
 .of_wp λm w A R s h=>by
  show hZ I H z r e;subst v hd;show oC D B;obtain⟨o,y,h⟩:=h;have f1:=idx_int;have f2:=AutoSeq1.sub_tuple_tuple;have G:=AutoSeq1.sub_list_list;have F:=AutoSeq1.sub_tuple_list;have E:=AutoSeq1.sub_list_tuple;have f:(c++a).size<=sizeLine+1:=by rw[Array.size_append];exact i
  wp_walk using(L7 o rfl (hz:=j) (_hz':=f)),DE o,DE y
  exact tT
#print "-"
section
variable{X:Cx}
theorem Qej:MtM X "list.extend" (λx vs H Q=>∃l b xs zs,x=aG l/\vs=[aG b]/\H l=sO iD/\SqT X.K H b zs/\xs.length+zs.length<=sizeLine/\Q .non (upd H l (.lst (xs++zs)))):=by
 intro i s J H x vs v L Q I p t h;obtain⟨l,b,xs,zs,rfl,rfl,o,F,B,q⟩:=h;cases p;obtain⟨u,rfl,w⟩:=t.one;cases w;obtain⟨z,c,n,r,D,e⟩:=I.lstM o;obtain⟨a,g,⟨y,G,E,A,hd⟩,C⟩:=eQ F;show g6 m g;show zZ4
 have d:zU6:=by
  rw[QcN f,DL];exact EC
 refine DN Ft (gH e) O2 (OH _ _)
  (QdO l c.toArray n b a.toArray A y E hd d (by rw[Nr];exact Ng (dX D) z) (Ng f dZ)) ⟨e,G,?_⟩
 refine⟨.non,_,I.lset (its':=c++a) o e aF (r.append g) ?_,rfl,q⟩;rw[Nw];exact B
noncomputable def WS(a:W)(ws:aH)(h:MH):bJ:=match a,ws with
 |aG n,[mL b]=>match h[n]? with|zT c=>zV5|_=>nO
 |_,_=>nO
theorem QbU:Qfq X "list.extend" WS:=by
 intro b s j H x o v p Q I t u q;refine Qej b s j H x o v p Q I t u ?_;obtain⟨R,h,a,J,w,L,d,z,c,e,k⟩:=q;unfold WS at e;split at e
 ·show pI n F e
  ·show pI G A e
   ·show eF B e;show wG f m D i d z A;show qW y r c;obtain⟨E,l,rfl,C,g⟩:=d.tupAt r;refine⟨_,E,m,l,rfl,rfl,D,C,jg1,?_⟩;exact k R _ _ c9 jf0 Rw.non
   ·cases e
  ·cases e
 ·cases e
@[simp]theorem QnQ:WS (aC n) [.tup ys] h=match h[n]? with|some iD=>if S2 then jk3 else nO|_=>nO:=aW
#print "-"
#print "-Mi"
namespace L2
section
variable{X:Cx}{pins:bP}{σ:St}{H:Hp}{s:Shared}{h':Heap}{t':Nat}{ch:cV}
theorem Inv.turnedL(I:cQ)(k:∀b o,xO->bK b=sO o->aI h' b=sO o)(f:∀b∈ch,zb0)(d:∀b u,Ae->i b=sO u)(x:∀b o,bK b=sO o->gM->i b=nO)
  (new:∀b u,gM->i b=sO u->ObjOk X.prog X.w i h' b u):RH i:=by
 have g:∀b u,Ae->xO:=λb u e z=>by rw[(f b z).1]at e;cases e
 refine I.step (g':=s.gens) (d':=s.drawn) (ch:=ch) (λb h=>zX6 f h) (λb o _ _ a e _=>k b o a e) (λb o _ _ a e _=>⟨o.slots,k b o a e⟩) (λb o _ e n=>x b o e n)
  (λb o a e=>⟨o,k b o a e⟩) (λb j e=>d b _ e) (λb o u e=>d b _ e) (λb ps e=>⟨#[],by rw[d b _ e];simp⟩) (mK m y) (jJ b u e) I.bare
 ·show cA o A B t r y;exact⟨o,A,B,k _ o (λz=>(f _ z).2.1 rfl) t,r⟩
 ·cases q:H b with
  |none=>exact new b u q e
  |some l=>
   rw[d b l q]at e;cases e;refine(I.hok b _ q).stay (zP0 a p) (λc z=>d c _ z) λc j z=>d c _ z
   show iP a z
   ·rw[z];exact g b _ q
   ·exact g c _ z
theorem Inv.turnedN(I:cQ)(k:∀b o,xO->bK b=sO o->aI h' b=sO o)(d:∀b∈ch,zb0)(a:zA2)(new:ObjOk X.prog X.w (upd H T nF) h' T nF) :
  Inv X pins σ (upd H T nF) { s with heap:=h',toks:=t' }:=by
 have c:=I.hok.fresh a;refine I.turnedL k d (λb u e=>yG e c) (λb o e n=>by rw[QE (λz=>by rw[z]at e;exact absurd nP (N7.mpr a))];exact n) (fC b u n e)
 show RL z T e
 ·rw[QE z,n]at e;cases e
#print "-"
noncomputable def Itv(K:Nd)(a:Addr)(n:Nat):It:=⟨λi H=>i<n/\∃b,jH a b/\zX,λi H x c=>c=H/\∀b,jH a b->b[n-1-i]?=sO x,λi _=>n<=i⟩
theorem Qh7{K:Nd}(a it:Addr)(n:Nat):Turn P w K tg (Itv K a n) [it] it (λi h=>i<=n/\h.IsRevIter it a (eL-1-eB)) where
 mem:=aY
 obj:=λi h st b j=>by
  have e:b=it:=cL j
  show zw3;exact⟨o,e,λv z=>by show bT d z⟩
 keep:=λi h m st k=>⟨st.1,st.2.at λo e=>k it aF o e⟩
 item:=by
  intro X t hw y M i f s F H E I l st r;subst t hw y;obtain⟨Z,G,L,hl⟩:=r;obtain⟨S,Q,p,hz⟩:=f0 L;obtain⟨x,J⟩:∃x,G[n-1-i]?=sO x:=⟨G[n-1-i]' bL,Nl _⟩
  show fY u U R Q J;obtain⟨D,f1,f2,C,B,A⟩:=l it aF;have e:eL-1-eB=Tz:=fZ
  show To;refine wpAny_pyNext_rev_item hit p.isList (x:=u) (cD U) (aP m g O);have e2:Tz-1=eL-1-zK3:=aU
  rw[e2]at g;have I1:yN f F H s m:=I.turned (t':=s.toks) (Hu j O) D f1 C B A;show L' g;exact⟨u,rfl,QdI (s:={ s with heap:=m }) e c d aA ⟨x,H,I1,R,jn0 T L J,iI Z g,pH j l⟩⟩
 done:=by
  intro X t hw y M i f s F H E I l st r;subst t hw y;obtain⟨D,f1,f2,C,B,A⟩:=l it aF;have Y:n<=i:=r;have e:eL-1-eB=-1:=by have:=st.1;lia
  show To;exact wpAny_pyNext_rev_end (pS M) hit λm eb=>⟨rfl,I.turned (t':=s.toks) (Tl j) D f1 C B A⟩
 self:=λ_ _ _ _ _ st h=>OJ st.2 h
noncomputable def QsP(K:Nd)(f:TA):TI:=λd H R=>f d H λe c=>∃a b,e=[aG a]/\SqL K c a b/\R (Itv K a b.length) c
theorem Qoj{n a:Expr}(D:W')(B:Tj)(F:PA X [a] r)(z:qA:=by rfl):PI X n RI (QsP X.K r):=by
 show cZ c j R;refine Call_ (Ka I D B boot_reversed (Em (thn (rE F c j h) (aP L f m)) z rfl));show cA J G I1 w x m;show za1 g A x;show oW v w;obtain⟨d,t,y,N⟩:=As A;show g6 C t;refine call_reversed_list y.isList ?_;refine OJ (l:=ad) (i:=zz3-1) ⟨_,fM,rfl,rfl⟩ ?_;refine⟨f.heap.objs.size,K' f,_,_,G,rfl,RS f,Qh7 ad _ g.length,⟨Eg _,?_⟩,bQ b E,q⟩
 ·refine⟨_,fM,rfl,?_⟩;have:jp2=(g.length:Int)-1-l':=by rw[Nr,C];simp
  rw[<-this];rfl
 ·have e:b=f.heap.objs.size:=cL E
  subst e;exact I1.fpOk cO (I1.hok.fresh cO)
noncomputable def Itz(K:Nd)(a b:Addr)(n m:Nat):It:=
  ⟨λi H=>i<min n m/\∃d c,jH a d/\jH b c/\d.length=n/\c.length=m,
   λi H v e=>∃T x y,v=aG T/\H T=nO/\e=upd H T (.tup [x,y])/\(∀d,jH a d->d[i]?=sO x)/\∀c,jH b c->c[i]?=sO y,
   λi H=>min n m<=i/\∃d c,jH a d/\jH b c/\d.length=n/\c.length=m⟩
theorem QiY{K:Nd}(Y U z TI TO l j:Addr)(n m:Nat)(D:ZipApart z TI TO l j Y U):Turn P w K (.Tuple af kk pos) (Itz K Y U n m) [z,TI,TO,l,j] z
  (λi h=>i<=min n m/\IsZip h z TI TO .none/\IsPair h TI (aC l) (aC j)/\(∃a b,IsPair h TO a b)/\h.IsListIter l Y i/\h.IsListIter j U i) where
 mem:=aY
 obj:=λi h st b g=>by
  obtain⟨_,hz,Q,⟨a,c,r⟩,⟨o1,e1,c1,d1⟩,⟨o2,e2,c2,d2⟩⟩:=st;have O:ju6:=cL g
  rcases O with rfl|rfl|rfl|rfl|rfl
  ·exact⟨_,hz,λv q=>uN q⟩
  show SI Q
  show SI r
  ·exact⟨o1,e1,λv q=>by show bT d1 q⟩
  ·exact⟨o2,e2,λv q=>by show bT d2 q⟩
 keep:=λi h h' st k=>by
  obtain⟨N,hz,Q,⟨a,c,r⟩,h1,h2⟩:=st;exact⟨N,k z aF _ hz,k TI aF _ Q,⟨a,c,k TO aF _ r⟩,h1.at λo e=>k l aF o e,h2.at λo e=>k j aF o e⟩
 item:=by
  intro X hP hw hK hc i S s σ H E I hf st hg;show jj7;obtain⟨f,F,p1,ai⟩:=f0 J;obtain⟨d,C,p2,ah⟩:=f0 G;have ao:=F.length;have an:=C.length;obtain⟨_,sz,B,A,s1,s2⟩:=st;have W:=WalksT.zip2 (prog:=X.prog) (w:=X.w) zd4 z TI TO l j Y U D f.toArray d.toArray;have p:ji7=min n m:=zH6
  refine W.item i s _ _ (tZ p N) jf7 λT vals h' tk hP hT ae L hk=>?_;obtain⟨u1,u2,am,al,rfl⟩:=hP;refine⟨aG T,rfl,W.go af kk pos i T _ _ _ L λau t ab=>?_⟩;obtain⟨x,hx⟩:∃x,xs[i]?=sO x:=⟨xs[i]'(Np (Np N (Nat.min_le_left _ _)) (Nu aa.symm)),Nl _⟩
  obtain⟨y,hy⟩:∃y,ys[i]?=sO y:=⟨ys[i]'(Np (Np N PJ) (dX Z)),Nl _⟩
  obtain⟨v1,ak,r1⟩:=F.get hx;obtain⟨v2,aj,r2⟩:=C.get hy;have e1:v1=u1:=by have:=am;rw[Dx,ak]at this;exact Eo this
  have e2:v2=u2:=by have:=al;rw[Dx,aj]at this;exact Eo this
  subst e1 e2;have aq:=W.apart i T _ L
  have ar:IsTup au T #[v1,v2]:=by
   obtain⟨o,ho,ap,q⟩:=ae;exact⟨o,ab T o aq ho,ap,q⟩
  have as:=zN3
  refine⟨aG T,_,I.turnedN (ch:=[z,TO,l,j]) (t':=tk) (xs:=[x,y]) (λb o g e=>ab b o g (hk b o g e)) zW0 hT ⟨by simp[DB],[v1,v2],.cons r1 (Cp r2),ar⟩,rfl,
   ⟨T,x,y,rfl,as,rfl,λzs M=>by rw[I.list_inj M J];exact hx,λzs M=>by rw[I.list_inj M G];exact hy⟩,⟨N,t.1,t.2.1,t.2.2.1,t.2.2.2.1,t.2.2.2.2.1⟩,bQ b g⟩
  rw[QE (sL q)]
  ·exact(hf b g).1
  ·obtain⟨o,ho,_⟩:∃o,bK b=sO o/\True:=by
    show fH a c r A;obtain⟨o1,e1,_⟩:=s1;obtain⟨o2,e2,_⟩:=s2;have O:ju6:=cL g
    rcases O with rfl|rfl|rfl|rfl|rfl
    ·exact⟨_,sz,trivial⟩
    show zd8 B
    show zd8 r
    ·exact⟨o1,e1,trivial⟩
    ·exact⟨o2,e2,trivial⟩
   rw[q]at ho;exact absurd (ND ho) (N7.mpr hT)
 done:=by
  intro X hP hw hK hc i S s σ H E I hf st hg;show jj7;obtain⟨f,F,p1,ai⟩:=f0 J;obtain⟨d,C,p2,ah⟩:=f0 G;have ao:=F.length;have an:=C.length;obtain⟨av,sz,B,A,s1,s2⟩:=st;have W:=WalksT.zip2 (prog:=X.prog) (w:=X.w) zd4 z TI TO l j Y U D f.toArray d.toArray;have p:ji7=i:=zH6
  refine W.done s _ _ (by rw[p];exact jf7) zv2
  exact I.turnedL (ch:=[z,TO,l,j]) (zE6 g) zW0 (xB e) (Co n) λb u n e=>by show bT n e
 self:=λ_ _ _ _ _ st h=>wpAny_pyIter_zip st.2.1 h
noncomputable def Qs7(K:Nd)(h:TA):TI:=λf H R=>h f H λg c=>∃a b e d,g=[aG a,aG b]/\SqL K c a e/\SqL K c b d/\R (Itz K a b e.length d.length) c
theorem QoP{X:Cx}{l:eE}(hg:Gl X "zip")(hm:X.mg "zip"=nO)(ha:PA X [a,b] N)(Z:starEach [a,b] X.env=[(false,iX a),(false,iX b)]:=by rfl)(f:Z' b=[(false,iX b)]:=by rfl) :
  PI X (.Tuple l kk y) jf1 (Qs7 X.K N):=by
 show cZ d G R;refine Call_ (Ka I hg hm boot_zip (Em (thn (ha pos d s G H _ I h) λus c J=>?_) (by rw[Z,f]) (by rw[f];rfl)));obtain⟨vs,H1,I1,Q,S⟩:=J;obtain⟨ad,F,M,L,e,r,o,q⟩:=S;subst e;obtain⟨u1,u2,rfl,n,m⟩:=Qaw Q;show oS n m;obtain⟨C,P,A,U⟩:=As r;obtain⟨B,O,z,T⟩:=As o;have i:zB1:=let⟨_,t,_⟩:=A.isList;ND t
 have g:F<c.heap.objs.size:=let⟨_,t,_⟩:=z.isList;ND t
 refine call_zip_2 A.isList z.isList λh' D x w v u Y hk=>wpAny_pyIter_zip D ?_;refine⟨c.heap.objs.size+4,[c.heap.objs.size+4,c.heap.objs.size+2,c.heap.objs.size+3,c.heap.objs.size,Br c],_,_,H1,rfl,I1.kept (t':=c.toks) hk,QiY ad F _ _ _ _ _ M.length L.length (PySem.W.ktu_apart _ _ _ i g),⟨Eg _,D,x,⟨_,_,w⟩,v,u⟩,bQ b E,q⟩
 have j:c.heap.objs.size<=b:=by
  simp at E
  rcases E with h|h|h|h|h<;>(rw[h];first|exact Ny _|exact AB)
 exact zx2 j
#print "-L2"
namespace Mi
open L2
noncomputable def Qmw(ms:MA):MI:=λb h=>(ms b h).bind λp=>match p.1 with
 |[.lst a]=>sO (a.reverse,nO,p.2)
 |[aG n]=>match p.2[n]? with|some oN=>sO (a.reverse,sO (.r n),p.2)|_=>nO
 |_=>nO
noncomputable def Qen(as bs:aH):aH:=(as.zip bs).map λq=>.tup [q.1,q.2]
noncomputable def Qak(ms:MA):MI:=λa h=>(ms a h).bind λp=>match p.1 with
 |[.lst as,.lst bs]=>sO (Qen as bs,nO,p.2)
 |[aG n,aG m]=>match p.2[n]?,p.2[m]? with|some (.lst as),sO (.lst bs)=>sO (Qen as bs,sO (.z n m as.length bs.length),p.2)|_,_=>nO
 |_=>nO
section
variable{K:Nd}{R:Rn}
theorem Qhe(l:Md)(r:gZ):ItOk K R (Itv K a xs.length) ws.reverse nO where
 go:=λi w j h H x d _ e=>by
  have c:=cG e;rw[Et,r.length]at c;exact⟨c,xs,ZA (h9 d x) l,rfl⟩
 yld:=λi w j h H x t e d _ g m=>by
  show uD n m;have c:=cG g;rw[Et]at c;rw[Fw c]at g;show fY v s p r g;have:=n xs (ZA (h9 d e) l);rw[<-r.length,s]at this;cases this;show S0 d
 stop:=λi j h H x d _ c=>jl3
theorem Qf5{ws:aH}(o:n<R.N):ItOk K R (Itv K kQ ws.length) ws.reverse (sO (.r n)) where
 go:=λi w m h H x b a e=>by
  have f:=cG e;have j:=a (.r n) rfl;obtain⟨g,d,c⟩:=mB b j;rw[FC]at c;rw[x.ρ n o]at d;exact⟨cL f,g,kB d,c.length.symm⟩
 yld:=λi w m h H x t e b a l p=>by
  show uD s p;have j:=a (.r n) rfl;obtain⟨g,d,c⟩:=mB b j;rw[FC]at c;rw[e.ρ n o]at d;have f:=cG l;rw[Et]at f;rw[Fw f]at l;show fY v g1 g2 c l;have:=s g (sI d);show oB g1;exact⟨m,wO,b,g2⟩
 stop:=λi m h H x b _ a=>by rw[Et]at a;exact a
theorem Qir(g:Md)(d:SqL K R.F b ys)(l:Rws K R as xs)(r2:Rws K R bs ys):ItOk K R (Itz K a b xs.length ys.length) (Qen as bs) nO where
 go:=λi w t h H x c _ e=>by
  have j:=cG e;show j6 v l u r2;unfold Qen at j;rw[Nz,IP]at j;exact⟨aU,xs,ys,ZA (h9 c x) g,ZA (h9 c x) d,rfl,rfl⟩
 yld:=λi w t h H x J e c _ p m=>by
  obtain⟨T,D,C,rfl,A,rfl,y,m⟩:=m;unfold Qen at p;rw[Nx]at p;obtain⟨⟨G,E⟩,n,rfl⟩:=mJ p;rw[DX]at n;obtain⟨v1,g1,g2⟩:=l.get n.1;obtain⟨I,g3,B⟩:=r2.get n.2;have s:=y xs (ZA (h9 c e) g);show bT g1 s;have r:=m ys (ZA (h9 c e) d);show bT g3 r;exact c.tup A (Rws.cons (A1 e g2) (Rws.cons (A1 e B) Rws.nil))
 stop:=λi t h H x c _ j=>by
  show j6 v l u r2;unfold Qen at j;rw[Nz,IP]at j;exact⟨aU,xs,ys,ZA (h9 c x) g,ZA (h9 c x) d,rfl,rfl⟩
theorem Qgp(p:n<R.N)(r:m<R.N):ItOk K R (Itz K kQ (R.ρ m) la l) items (sO (.z n m la l)) where
 go:=λi w C h H x a b e=>by
  show zp0;obtain⟨d,g1,g2⟩:=mB a g;obtain⟨c,g3,j⟩:=a.obj m _ f;rw[x.ρ n p]at g1;rw[x.ρ m r]at g3;have b:=cG e;rw[Nz,IP]at b;exact⟨b,d,c,kB g1,kB g3,g2.length.symm,j.length.symm⟩
 yld:=λi w C h H x P e a b y o=>by
  obtain⟨T,J,I,rfl,G,rfl,F,o⟩:=o;show zp0;obtain⟨d,u,E⟩:=mB a g;obtain⟨c,t,D⟩:=a.obj m _ f;rw[e.ρ n p]at u;rw[e.ρ m r]at t;rw[Nx]at y;obtain⟨⟨M,L⟩,s,rfl⟩:=mJ y;rw[DX]at s;obtain⟨v1,g1,g2⟩:=E.get s.1;obtain⟨O,g3,j⟩:=D.get s.2;have B:=F d (sI u);show bT g1 B;have A:=o c (sI t);show bT g3 A;exact a.tup G (Rws.cons g2 (Rws.cons j Rws.nil))
 stop:=λi C h H x a b v=>by
  show zp0;obtain⟨d,g1,g2⟩:=mB a g;obtain⟨c,g3,j⟩:=a.obj m _ f;rw[x.ρ n p]at g1;rw[x.ρ m r]at g3;rw[Nz,IP]at v;exact⟨v,d,c,kB g1,kB g3,g2.length.symm,j.length.symm⟩
#print "-"
section
variable{X:Cx}{tg a b:Expr}{ms:MA}{p pos tpos:Pos}{elts:eE}{kk:Nat}
theorem Qlm(F:W')(E:Tj)(G:Mw)(B:qA:=by rfl):PMI X tg RI (Qmw ms):=
 Gh (Qoj F E G B) λN H C u=>by
  obtain⟨R,i,h,items,y,P,A,st,e,k⟩:=u;show cX w L M d e;refine⟨R,i,h,w,L,A,st,M,fB R1 t O o c r⟩;split at d
  ·show Ry x l;have f:=l;show fG f;obtain⟨ad,j,rfl,s,z⟩:=f;exact⟨ad,j,rfl,zc2 c s,k R1 t _ o c (Qhe (sI s) z)⟩
  ·rename_i n g;show zH g;split at d
   ·show sB x D d;show qW v l r;show wG m j J I c l D;refine⟨_,j,rfl,kB J,?_⟩;show sK I;exact k R1 t _ o c (Qf5 m)
   ·cases d
  ·cases d
theorem Qcj(P:Gl X "zip")(x:X.mg "zip"=nO)(Q:PMA X [a,b] ms)(N:starEach [a,b] X.env=[(false,iX a),(false,iX b)]:=by rfl)(w:Z' b=[(false,iX b)]:=by rfl):PMI X zx3 jf1 (Qak ms):=
 Gh (QoP P x Q N w) λσ H C E=>by
  obtain⟨R,o,h,items,J,h',M,st,e,k⟩:=E;show cX F Z e1 d e;refine⟨R,o,h,F,Z,M,st,e1,λR1 D vs z c A=>?_⟩;split at d
  ·rename_i I t g;show zH g;show jA8;unfold Rw at l j;obtain⟨ad,s,rfl,B,L⟩:=l;obtain⟨bd,r,rfl,i,u⟩:=j;exact⟨ad,bd,s,r,rfl,zc2 c B,zc2 c i,k R1 D _ z c (Qir (sI B) (sI i) L u)⟩
  ·rename_i n m g;show zH g;split at d
   ·rename_i I t O x;show jA8;show wG y s Y U c l O;show wG f r T S c j x;refine⟨_,_,s,r,rfl,kB Y,kB T,?_⟩;rw[<-U.length,<-S.length];exact k R1 D _ z c (Qgp y f)
   ·cases d
  ·cases d
#print "-"
#print "-Mi"
namespace St
theorem UX(t:SetTable)(n:Nat):(t.orStandIn n).led=t.led/\(wA->(t.orStandIn n).plain=false):=by
 unfold SetTable.orStandIn;split
 ·exact⟨rfl,id⟩
 ·exact⟨rfl,d7⟩
theorem Qca(t:SetTable)(es:i6)(g:Int)(x:Value):(layNew t es g x).2.1.led=t.led/\(wA->(layNew t es g x).2.1.plain=false):=by
 unfold layNew;split
 ·exact UX _ _
 ·exact⟨rfl,d7⟩
theorem Qe0(e:SetTable.laid m f v l p b=sO r):r.1.led=l/\r.1.plain=p:=by
 unfold SetTable.laid at e;obtain⟨o,_,a⟩:=eH e;cases a;exact wC
theorem G6(t:SetTable)(es:i6)(n:Nat):(relayAll t es n).2.1.led=t.led/\(wA->(relayAll t es n).2.1.plain=false):=by
 unfold relayAll;split
 ·rename_i c d e;have a:=Qe0 e;dsimp only;split
  ·exact⟨a.1,λb=>a.2.trans b⟩
  ·exact⟨rfl,d7⟩
 ·exact⟨rfl,d7⟩
section
variable{prog:Program}{w:World}{A:Around}{E:bI}{s:Shared}
def SetL(prog:Program)(w:World)(h:Heap)(a:Addr)(ks:aD)(led:Bool):Prop:=
 ∃o b c t,aI h a=sO o/\o.ExactSet/\o.data=.set b c t/\ElemsOf Bh b.toList/\b.size<scanBound/\t.fits b.size=true/\t.led=led/\(b.size=0\/wA)/\ks.Nodup/\b.size=ks.length/\∀k,k∈ks↔∃e∈b.toList,y9
theorem SetL.at{h h':Heap}{a:Addr}{ks:aD}{led:Bool}(x:yP h a)(e:∀o,aI h a=sO o->aI h' a=sO o):yP h' a:=by obtain⟨o,c,d,t,b,r⟩:=x;exact⟨o,c,d,t,e _ b,r⟩
theorem SetL.lt{h:Heap}{a:Addr}{ks:aD}{led:Bool}(x:yP h a):zO9:=by obtain⟨_,_,_,_,b,_⟩:=x;exact ND b
theorem SetL.typeIs{a:Addr}{ks:aD}{led:Bool}(x:yC s a):s.TypeIs (aC a) "set":=by obtain⟨o,_,_,_,c,b,_⟩:=x;exact⟨o,c,b.1⟩
theorem stored{h:Heap}{o:Obj}(f:aI h a=sO o)(d:o.ExactSet)(hd:o.data=wW p)(h1:ElemsOf Bh es'.toList)(n:es'.size<scanBound)(m:t'.fits es'.size=true)(l:es'.size=0\/t'.plain=false)(j:ks.Nodup)(i:es'.size=ks.length)(g:∀k,k∈ks↔∃e∈es'.toList,y9) :
  zW3/\jl4/\(∃b,jd0)/\SetL prog w (h.update a (Obj.putSet es' t')) a ks t'.led:=by
 have g1:zW3:=N2 _ f (by rw[zB2];rfl);have g2:jl4:=by rw[zB2];exact d
 have g3:∃b,jd0:=by rw[zB2];exact cN
 show fV b c g3;exact⟨g1,g2,iI b c,_,es',b,t',g1,g2,c,h1,n,m,rfl,l,j,i,g⟩
theorem Qdb(x:Str)(c:Tok):(strKind prog w).is x rA=true:=by
 show Value.isStrOf x rA=true;simp[Value.isStrOf]
theorem Qhc{a:Addr}{ks:aD}{led:Bool}{x:Str}{c:Tok}{Q:Bool->cS}(hS:yC s a)(room:ks.length+1<scanBound)
  (h:∀b h',lQ a->SetL prog w h' a (if x∈ks then ks else ks++[x]) led->Q b { s with heap:=h' }) :
  wpAny aX A (setAddHashed a rA AU) Q E s:=by
 obtain⟨o,I,ep,t,P,hx,hd,y,hb,hf,m,aa,S,hn,i⟩:=hS;have Y:(strKind prog w).is x rA=true:=Qdb x c;have G:(Value.str x c).scannable=true:=rfl;have quiet:∀(b:Bool) {B:Shared} {D:Unit->cS},D () B->wpAny aX A (match b with|true=>jh8|false=>CW) D E B:=λb _ _ q=>by cases b<;>first|exact Nj q|exact Ii q
 unfold setAddHashed setAddHashedIn;refine ER (Na (N1 P hd hf ?_));dsimp only;rw[byScan_of G hb y,nC];unfold setAddByScan;refine Na (Na (Ii (Na (wpAny_setScan_of Y P hd hf y ?_))));cases hr:List.findIdx? (λe=>(strKind prog w).is x e.2) I.toList with
 |some j=>
  obtain⟨hj,pj,_⟩:=Ds.mp hr;have f:x∈ks:=(i x).mpr ⟨I.toList[j],Dj hj,pj⟩;refine Nj f6;have q:=h false s.heap (Fm a s.heap) ⟨o,I,ep,t,P,hx,hd,y,hb,hf,m,aa,by rw[bW f];exact S,by rw[bW f];exact hn,by rw[bW f];exact i⟩;exact q
 | none=>
  have f:x∉ks:=λf=>by
   obtain⟨e,z,p⟩:=(i x).mp f;have:=LA.mp hr e z;show oB p
  rw[cR f]at h;have pm:=layNew_perm t I AU rA;have Z:=layNew_fits t I AU rA;have X:=Qca t I AU rA;dsimp only;generalize layNew t I AU rA=L at pm Z X ⊢;obtain⟨d,t1,ab,gv⟩:=L;dsimp only at pm Z X ⊢;rw[Yau]at pm;have U:ElemsOf Bh d.toList:=(y.push Y G).perm pm;have F:d.size=(ks++[x]).length:=by rw[<-NR,pm.length_eq,Nw,NR,Nw,hn];rfl
  have b1:d.size<scanBound:=by rw[F,Nw,NX];exact room
  have O:(ks++[x]).Nodup:=by
   rw[Ls];exact⟨S,aY,λu hu v hv e=>f (by rw[NK.mp hv]at e;rw[<-e];exact hu)⟩
  have C:∀k,k∈ks++[x]↔∃e∈d.toList,y9:=λk=>by
   rw[NQ,NK,i k];constructor
   ·rintro(⟨e,z,p⟩|rfl)
    ·exact⟨e,pm.mem_iff.mpr (Ee _ z),p⟩
    ·exact⟨_,pm.mem_iff.mpr (NS _ zP9),Y⟩
   ·rintro⟨e,z,p⟩
    rcases NQ.mp (pm.mem_iff.mp z)with q|q
    ·exact .inl ⟨e,q,p⟩
    ·rw[j2 q]at p;exact .inr ((strKind prog w).inj _ _ _ p Y)
  have fin:∀(g:SetTable),g.fits d.size=true->g.led=led->g.plain=false->wpAny aX A (do
    storeSet a d g
    if(!ab&&g.tooFull)=true then do
      (match (relayAll g d yA).2.2 with|true=>jh8|false=>CW)
      storeSet a (relayAll g d yA).1 (relayAll g d yA).2.1
      pure (sO true)
     else pure (sO true)) (λr M=>∃v,r=sO v/\∃h',lQ a/\zX9) E s:=by
   intro g f2 l2 p2;refine Na (Iq P hd ?_ (Lu b1));obtain⟨g1,g2,⟨af,g3⟩,g4⟩:=stored (prog:=prog) (w:=w) P hx hd U b1 f2 (.inr p2) O F C;rw[l2]at g4;have sb:=Ea s.heap a (Obj.putSet d g);split
   ·have l:=relayAll_perm g d yA;have H:=relayAll_fits g d yA;have n:=G6 g d yA;generalize relayAll g d yA=R at l H n ⊢;obtain⟨T,t3,ae⟩:=R;dsimp only at l H n ⊢;have sz2:T.size=d.size:=zx4 l
    have b2:T.size<scanBound:=by rw[sz2];exact b1
    refine Na (quiet _ (Na (Iq g1 g3 (Nj ⟨true,rfl,_,sb.trans (Ea _ a _),?_,rfl⟩) (Lu b2))));obtain⟨_,_,_,g5⟩:=stored (prog:=prog) (w:=w) (ks:=ks++[x]) g1 g2 g3 (U.perm l) b2 H (.inr (n.2 p2)) O (sz2.trans F) (λk=>(C k).trans ⟨λ⟨e,z,q⟩=>⟨e,l.mem_iff.mpr z,q⟩,λ⟨e,z,q⟩=>⟨e,l.mem_iff.mp z,q⟩⟩);rw[n.1,l2]at g5;exact g5
   ·exact Nj ⟨true,rfl,_,sb,g4,rfl⟩
  have N:∀r M,(∃v,r=sO v/\∃h',lQ a/\zX9)->wpAny aX A (match r with|gA J=>pure J|none=>setAddHashedIn a rA AU 99999) Q E M:=by
   rintro r M ⟨v,rfl,h',q1,q2,rfl⟩
   exact Nj (h v h' q1 q2)
  refine Na (quiet _ ?_);cases hp:t1.plain with
  |true=>
   rw[nC,hashByValue_scannable 8 G];refine Na f6;exact NZ (fin { t1 with plain:=false } (SetTable.fits_plain_off Z) (X.1.trans m) rfl) N (gL q)
  |false=>
   rw[if_neg aF];refine Na f6;exact NZ (fin t1 Z (X.1.trans m) hp) N (gL q)
#print "-"
noncomputable def uniq(l:aD):aD:=l.foldl (λu x=>if x∈u then u else u++[x]) []
theorem uniq_snoc(l:aD)(x:Str):uniq (l++[x])=if x∈uniq l then uniq l else uniq l++[x]:=by unfold uniq;rw[Yav];rfl
theorem QiA:∀(n:Nat) (l:aD),zi2->(uniq l).length<=n:=by
 intro n
 induction n with
 |zero=>intro l h;rw[CU];exact Ny _
 |succ n a=>
  intro l h;obtain⟨u,x,rfl⟩:∃u x,l=u++[x]:=⟨l.dropLast,l.getLast (λz=>by show bT z h),No⟩
  rw[uniq_snoc];have:=js5;split
  ·exact Ng this dZ
  ·rw[Nw,NX];exact OK this _
theorem uniq_mem:∀(n:Nat) (l:aD),zi2->∀y,y∈uniq l↔y∈l:=by
 intro n
 induction n with
 |zero=>intro l h y;rw[CU];exact Iff.rfl
 |succ n a=>
  intro l h y;obtain⟨u,x,rfl⟩:∃u x,l=u++[x]:=⟨l.dropLast,l.getLast (λz=>by show bT z h),No⟩
  have q:=js5;rw[uniq_snoc,NQ,NK];split
  ·rename_i b;rw[q y];exact⟨.inl,λz=>z.elim id λe=>by rw[e];exact(q x).mp b⟩
  ·rw[NQ,NK,q y]
section
variable{prog:Program}{w:World}{A:Around}{R:Result->cS}{I:Addr}{fp wr:cV}{G:Mc->Mc->Prop}{n:Nat}{P:Nat->MP}{St':Nat->cS}
theorem QqB(W:WalksS prog w A.in1 I fp wr G n P St')(S:Addr)(f:S∉fp)(led:Bool)(l:aD)(H:zi2)(F:∀i v,P i v->∃x c,l[i]?=sO x/\v=PU)(O:n+1<scanBound) :
  ∀(k i:Nat) (s:Shared),n-i=k->i<=n->St' i s->jg4 s ->
   (∀a,Moved (S::wr) G s a->SetL prog w a.heap S (uniq l) led->R (.ok zQ9) a) ->
   codeAny aX A (.builtin "set.update.loop" ⟨[aG S,aG I],[]⟩) R s:=by
 have C:S∉wr:=λz=>f (W.sub _ z);have sub:∀b∈wr,b∈S::wr:=λb z=>Nt _ z;intro k
 induction k with
 |zero=>
  intro i s J L st g u;obtain rfl:i=n:=aU
  refine Fj LU ?_;rw[FD Im _];show wpAny _ A.in1 (pyNext (aC I)>>=_) _ _ s;refine Na (W.done s _ _ st λa d=>Nj (u a (d.mono sub) ?_));rw[DO (Nu H)]at g;exact js6
 | succ k D=>
  intro i s J L st g u;have lt:i<n:=aU
  refine Fj LU ?_;rw[FD Im _];show wpAny _ A.in1 (pyNext (aC I)>>=_) _ _ s;refine Na (W.item i s _ _ lt st λv a M h d=>?_);obtain⟨x,c,E,rfl⟩:=F i v M;have t:jg4 a:=js6;show wpAny _ A.in1 (holding [P7 c] (setAdd S rA)>>=_) _ _ a;refine Na (ER ?_);unfold setAdd;refine ER (Na ((strKind prog w).pyHash (k:=x) (Qdb x c) ?_))
  have room:(uniq (l.take i)).length+1<scanBound:=by
   have:=QiA _ (l.take i) rfl;rw[EL]at this;lia
  refine Qhc (s:={ a with toks:=a.toks+1 }) t room (fC b N B r)
  have p:SetL prog w N S (uniq (l.take (i+1))) led:=by
   rw[Ez,E,Option.toList_some,uniq_snoc];exact r
  refine Nj ⟨Lk Im _,D (i+1) _ aQ lt (W.frame _ a _ _ h (IA _) (fC b z o e)) p (aP j m q)⟩
  ·exact(B.2 b (λy:b=S=>f (BP y z))).trans e
  ·refine u j (Moved.trans W.gtrans ((d.mono sub).then_heap (IA _) (fC b o z e)) m) q;exact(B.2 b (λy:b=S=>z (by rw[y];exact NG))).trans e
#print "-"
section
variable{prog:Program}{w:World}{A:Around}{E:bI}{s:Shared}
noncomputable abbrev ledW(w:World):Bool:=! zs0
noncomputable abbrev Q9(b:Bool):Obj:={ cls:=.type "set",dict:=nO,data:=.set #[] 0 (.fresh 0 0 b) }
theorem Qtj(a:Value)(h:Q₁ i4 { s with heap:=s.heap.push iL }) :
  codeAny aX A (.call (.builtin "set.__new__") zv3) (wants Q₁ E) s:=by
 refine L8 (show wpAny _ A.in1 (do checkBuiltinCall "set.__new__" zv3;again (.builtin "set.__new__" zv3)) _ _ s from ?_);refine Na (DC (F.newCall_set_1 a) (Nj ⟨Lk F.plain_set_new _,Fj (F.entry_set_new) ?_⟩));rw[FD F.plain_set_new _];unfold Builtin.«set.__new__» Builtin.Frozenset.newClass;have b:=Yah;show oC e c;dsimp only
 wp_walk
 refine Da f6;dsimp only;simp only[newObj];exact Na (wpAny_alloc (Nj (Nj h)))
theorem Ga(e:aI h a=sO (Q9 b)):SetL prog w h a [] b:=
 ⟨_,#[],0,_,e,zE8,rfl,λx c=>gG c,a',rfl,rfl,uG,Dw,rfl,λk=>aY⟩
theorem Qrp{Q:bI}(hh:jU)(O:s.heap.IsList l items)(hi:jB0)(P:items.size+1<scanBound)
  (h:∀(h':Heap) (tk:Nat),SetL prog w h' s.heap.objs.size (uniq ss) m7->(∀b o,Ti->bK b=sO o->aI h' b=sO o)->Q i4 { s with heap:=h',toks:=tk }) :
  wpAny aX A (Builtin.«set.__init__» ⟨[kE s,aG l],[]⟩) (λfin y=>fin=.done zQ9/\Q i4 y) E { s with heap:=s.heap.push iL }:=by
 have J:(s.heap.push iL).get? s.heap.objs.size=sO iL:=fM;have hT:Shared.TypeIs { s with heap:=s.heap.push iL } i4 "set":=gH J
 obtain⟨ol,j,r,nl,p⟩:=O;obtain⟨I,f,B,a⟩:=ol;simp only at r p;subst r p;have g:(s.heap.push iL).get? l=sO { cls:=eC,dict:=f,data:=.seq items nl,slots:=a }:=Nq _ j;have n:(s.heap.push iL).IsList l items:=⟨_,g,rfl,nl,rfl⟩
 have n1:=F.sub_list_set;have Z:=F.sub_list_frozenset;have Y:(Value.type "list"==Value.type "dict")=false:=a'
 unfold Builtin.«set.__init__» noKeywords Builtin.Frozenset.updateFrom;generalize H:pyIter=PI
 wp_walk
 subst H;refine Lr n (Na (wpAny_runValue ?_));have m:l<s.heap.objs.size:=ND j;have d:(s.heap.push iL).objs.size=zC3:=Lb _ _;have C:l≠(s.heap.push iL).objs.size:=by rw[d];exact NY (Fo m)
 have M:s.heap.objs.size∉[(s.heap.push iL).objs.size,l]:=by
  rw[d];show zx5;exact⟨NY uP,DP m⟩
 have D:ss.length=items.size:=by have:=Lc hi;rw[NR]at this;exact this.symm
 have N:∀(i:Nat) (v:Value),rJ=sO v->∃x c,ss[i]?=sO x/\v=PU:=λi v e=>by
  have L:items.toList[i]?=sO v:=by rw[EN];exact e
  obtain⟨x,c,rfl⟩:=hi.all v (Pf i L);refine⟨x,c,?_,rfl⟩;rw[<-hi.strs,Nx,L];rfl
 refine QqB ((Walks.list (show TY by simp[hh]) _ l C items).toS) s.heap.objs.size M m7 ss D N P (items.size-0) 0 _ rfl uQ ⟨⟨_,fM,rfl,rfl⟩,n.push _⟩ (Ga (Nq _ J)) (aP y t G);show cA h' R X u z y;have T:R=s.gens:=t.gens;have U:X=s.drawn:=t.drawn;have S:z=s.os:=t.os;subst T U S;refine Nj (Nj ⟨rfl,h h' u G λb o lt e=>?_⟩);refine t.heap b o ?_ (Nq _ (Nq _ e));show zx5;exact⟨NY lt,by rw[d];exact NY (Fo lt)⟩
theorem set_list(hh:jU)(u:s.heap.IsList l items)(hi:jB0)(v:items.size+1<scanBound)
  (h:∀(h':Heap) (tk:Nat),SetL prog w h' s.heap.objs.size (uniq ss) m7->(∀b o,Ti->bK b=sO o->aI h' b=sO o)->Q i4 { s with heap:=h',toks:=tk }) :
  wpAny aX A (call (.type "set") [aG l]) Q E s:=by
 have body:∀(m:Around),m.handled=nO->wpAny aX m (Builtin.«set.__init__» ⟨[kE s,aG l],[]⟩) (λfin n=>fin=.done zQ9/\Q i4 n) E { s with heap:=s.heap.push iL }:=by
  intro m z;exact Qrp z u hi v h
 obtain⟨c,C,p⟩:=D5.mro;have M:=D5.made;have L:=D5.sub;refine Ic (L8 (show wpAny _ _ (callAny (.type "set") _) _ _ _ from ?_));refine Nj ⟨F0 _ bB,Fj (F.entry_type_call) ?_⟩;rw[Around.under_plain (weight_type_call_type "set" [eK l] []) rfl];have J:=D5.notType;have I:=D5.canCreate;have H:=F.typeCall_set_1 (Ad l)
 show zr1
 refine D1 (Qtj (Ad l) (E:=E) (Q₁:=λobj f=>obj=kE s/\f={ s with heap:=s.heap.push iL }) wC) (aP r f j);cases r with
 |error e=>exact j
 | ok B=>
  cases B with
  | ret obj=>
   obtain⟨rfl,rfl⟩:=j;have y:(s.heap.push iL).get? s.heap.objs.size=sO iL:=fM;have x:Shared.TypeIs { s with heap:=s.heap.push iL } i4 "set":=gH y
   have G:=D5.init.lookup;have D:=D5.init.bind i4
   show zr1
   refine D1 (FE (R:=wants (λr d=>r=.none/\Q i4 d) E) D5.init.plain F.entry_set_init (check_set_init_1 x (NZ (body _ zN4) (λfin n q=>?_) (gL q)))) (aP i d a)
   ·obtain⟨rfl,q⟩:=q;exact⟨rfl,q⟩
   ·cases i with
    |error e=>exact a
    | ok g=>
     cases g with
     |ret r=>
      show uD q a
      show zr1
     |_=>show iH a
  |_=>show iH j
#print "-"
theorem slotN:Slot "set_iterator" "__next__" "set_iterator.__next__":=.of (owner:="set_iterator") (n:="__next__") Ho bB bB bB (by first|exact .inl bB|exact .inr bB) B1
theorem QjE:entryFor table "set_iterator.__next__"=sO Builtin.«set_iterator.__next__»:=entryFor_of_tree qM
theorem Qoe(a:Value):argsOk "set_iterator.__next__" ze1:=Hk
theorem Qnm:entryFor table "set.__iter__"=sO Builtin.«frozenset.__iter__»:=Ld (id':="frozenset.__iter__") qM rfl bB qM
theorem U2(lt:j<l.length):List.Perm (l[j]::l.eraseIdx j) l:=by
 rw[List.eraseIdx_eq_take_drop_succ];have e:l=l.take j++l[j]::l.drop (j+1):=by rw[<-EV lt,DS]
 conv=>rhs;rw[e]
 exact List.perm_middle.symm
theorem QkO(nx:Nat->Nat):∀(f k:Nat) (l:g8) (o:Array a),f=l.length->List.Perm (pickOrder.go nx f k l o).toList (o.toList++l):=by
 intro f
 induction f with
 |zero=>
  intro k l o h;rw[NT.mp h.symm,E2];exact .rfl
 |succ f b=>
  intro k l o h;unfold pickOrder.go;have lt:nx k%l.length<l.length:=LC _ (Np (Fx _) (Nu h));generalize nx k%l.length=j at lt;rw[Nl lt];refine(b (k+1) (l.eraseIdx j) (o.push l[j]) (by rw[Ll lt];lia)).trans ?_;rw[Yau,Ir,List.singleton_append];exact List.Perm.append_left _ (U2 lt)
theorem Qa0(nx:Nat->Nat)(xs:Array a):List.Perm (pickOrder nx xs).toList xs.toList:=by
 have:=QkO nx xs.size 0 xs.toList #[] aF;simpa[pickOrder]using this
section
variable{prog:Program}{w:World}{A:Around}{E:bI}{s:Shared}
theorem Qn8(a:n≠0)(h:∀j d,j<n->Q j { s with drawn:=d }):wpAny M A (choose src n) Q E s:=λb p _=>by
 show Sem.wp M b (.choose src n λi=>pure i) _ _ p s;rw[Sem.wp_choose];exact⟨a,h _ _ (LC _ (Yai a))⟩
theorem WV:∀(n:Nat) (xs:gN b) (s:Shared) (Q:gN b->cS),n=xs.length->(∀ys d,List.Perm ys xs->Q ys { s with drawn:=d })->wpAny aX A (drawOrder n xs) Q E s
 |0,xs,s,Q,a,h=>by
  have e:=NT.mp a.symm;subst e;exact Nj (h [] s.drawn .rfl)
 |n+1,[],s,Q,a,h=>fN a
 |n+1,x::xs,s,Q,a,h=>by
  unfold drawOrder;refine Na (Qn8 aF λj c lt=>?_);rw[Nl lt];refine Na (WV n _ _ _ (by rw[Ll lt];simp at a ⊢;exact a) λys d p=>Nj (h _ d ?_));exact(p.cons _).trans (U2 lt)
#print "-"
#print "-St"
namespace Sb
open PySem SetTable
noncomputable abbrev At(xs:PB)(i:Nat):Nat:=xs.getD i 0
def Up(xs:PB):Prop:=∀i j,i<j->j<xs.size->rY<At xs j
theorem Qhv(up:Up xs):∀(f lo hi:Nat),hi-lo<=f->lo<=hi->hi<=xs.size->(∀i,i<lo->rY<j)->(∀i,hi<=i->A8->j<=rY) ->
  zy4<=xs.size/\(∀i,i<zy4->rY<j)/\∀i,zy4<=i->A8->j<=rY:=by
 intro f
 induction f with
 |zero=>
  intro lo hi t r l h g;have:lo=hi:=aU
  subst this;exact⟨l,h,g⟩
 | succ f p=>
  intro lo hi t r l h g;unfold below.go
  by_cases c:lo<hi
  ·rw[bW c];have o:(lo+hi)/2<xs.size:=aU
   have e:xs.getD ((lo+hi)/2) j=At xs ((lo+hi)/2):=by simp[Array.getD,o]
   have rel:∀a b,a<=b->b<xs.size->At xs a<=At xs b:=λa b n m=>by
    rcases D6 a b with z|z
    ·exact Nv (up a b z m)
    ·rw[show a=b by exact Fg n z];exact Ny _
   dsimp only;rw[e]
   by_cases d:At xs ((lo+hi)/2)<j
   ·rw[bW d];exact p _ hi bL aQ l (λi s=>Nk (rel i _ aQ o) d) g
   ·rw[cR d];exact p lo _ bL aQ (Nv o) h (λi n m=>Ng (mI d) (rel _ i n m))
  ·rw[cR c];have:lo=hi:=by exact Fg r (mI c)
   subst this;exact⟨l,h,g⟩
theorem QcT(up:Up xs)(j:Nat):below xs j<=xs.size/\(∀i,i<below xs j->rY<j)/\∀i,below xs j<=i->A8->j<=rY:=
 Qhv up xs.size 0 xs.size wZ uQ cO (λi h=>Mx h) (λi b a=>aU)
theorem below_next(up:Up xs)(hi:A8):below xs (rY+1)=i+1:=by
 obtain⟨c,b,a⟩:=QcT up (rY+1)
 rcases Nat.lt_trichotomy (below xs (rY+1)) (i+1)with z|z|z
 ·have:=a i bL hi;lia
 ·exact z
 ·have:=b (i+1) z;have:=up i (i+1) uP (Np z c);omega
theorem below_zero(up:Up xs):below xs 0=0:=by
 obtain⟨c,a,b⟩:=QcT up 0
 rcases Nat.eq_zero_or_pos (below xs 0)with z|z
 ·exact z
 ·exact absurd (a 0 z) (Fh _)
theorem at_get(hi:A8):xs[i]?=sO (At xs i):=by simp[Array.getD,hi]
noncomputable def adv(m:Nat)(p:Probe):Probe:=
 if p.more>0 then { p with j:=p.j+1,more:=p.more-1 }else
 let(i,perturb):=leap m p.i p.perturb
 { p with j:=i,more:=zY-i,i,perturb }
noncomputable def sq(m:Nat)(h:Int):Nat->Probe
 |0=>{ j:=uU%(m+1),more:=runEnd m M5-uU%(m+1),i:=uU%(m+1),perturb:=uU,dummy:=nO }
 |n+1=>adv m zh8
noncomputable abbrev sj(m:Nat)(h:Int)(n:Nat):Nat:=zf6
noncomputable def bk(m:Nat)(h:Int):Nat->Nat×Nat
 |0=>(uU%(m+1),uU)
 |k+1=>leap m eN BU
noncomputable def ps(m:Nat)(h:Int):Nat->Nat
 |0=>0
 |k+1=>kR+(runEnd m eN-eN)+1
theorem QjZ(m:Nat)(h:Int)(n i a:Nat)(e:sq m h n={ j:=i,more:=zY-i,i:=i,perturb:=a,dummy:=nO }):∀c,c<=zY-i->sq m h (n+c)={ j:=i+c,more:=zY-i-c,i:=i,perturb:=a,dummy:=nO }:=by
 intro c
 induction c with
 |zero=>
  intro _;exact e
 |succ c b=>
  intro d;rw[show n+(c+1)=(n+c)+1 from rfl];show adv m (sq m h (n+c))=_;rw[b (Nv d)];unfold adv;rw[if_pos (by show zY-i-c>0;omega)];rfl
theorem Qq8(m:Nat)(h:Int):∀k,sq m h (ps m h k)={ j:=eN,more:=runEnd m eN-eN,i:=eN,perturb:=BU,dummy:=nO }:=by
 intro k
 induction k with
 |zero=>
  exact rfl
 |succ k a=>
  show adv m (sq m h (kR+(runEnd m eN-eN)))=_;rw[QjZ m h _ _ _ (a) _ cO];unfold adv;rw[if_neg (by show¬(runEnd m eN-eN-(runEnd m eN-eN)>0);lia)];rfl
theorem Qlv(m:Nat)(h:Int)(k c:Nat)(a:c<=runEnd m eN-eN):sj m h (kR+c)=eN+c:=by
 show(sq m h (kR+c)).j=_;rw[QjZ m h _ _ _ (Qq8 m h k) c a]
theorem QcY(m i:Nat):i<=zY:=by unfold runEnd;split<;>lia
theorem QgY(hi:i<=m):zY<=m:=by unfold runEnd;split<;>omega
theorem Qlw(m:Nat)(h:Int):∀k,eN<=m:=by
 intro k
 induction k with
 |zero=>
  exact zI1
 |succ k a=>
  exact zI1
theorem QqO(m:Nat)(h:Int):∀k,BU=uU/32^k:=by
 intro k
 induction k with
 |zero=>
  exact(Nat.div_one _).symm
 |succ k a=>
  show BU/32=_;rw[a,Nat.div_div_eq_div_mul,Nat.pow_succ]
theorem Qkq(h:Int):uU<2^64:=by
 unfold bits;have:=NM h (show gK<2^64 by decide);have:=NW h (show(CY^64)≠0 by decide);lia
theorem Qpc(m:Nat)(h:Int)(a:13<=k):BU=0:=by
 rw[QqO];apply Nat.div_eq_of_lt;have:=Qkq h;have c:32^13<=32^k:=Nat.pow_le_pow_right aA a;have b:(2:Nat)^64<=32^13:=a'
 exact Np (Np this b) c
noncomputable def lcg(m:Nat):Nat->Nat->Nat
 |0,i=>i
 |r+1,i=>(lcg m r i*5+1)%(m+1)
theorem QoB(m:Nat)(h:Int):∀r,(bk m h (12+r)).1=lcg m r (bk m h 12).1:=by
 intro r
 induction r with
 |zero=>
  exact rfl
 |succ r a=>
  show((bk m h (12+r)).1*5+1+(bk m h (12+r)).2/32)%(m+1)=_;rw[a];have:(bk m h (12+r)).2/32=0:=Qpc m h (k:=12+r+1) aQ;show mD
theorem G0(m:Nat)(a i:Nat):∀b,lcg m (a+b) i=lcg m b (lcg m a i):=by
 intro b
 induction b with
 |zero=>
  exact rfl
 |succ b c=>
  show(lcg m (a+b) i*5+1)%(m+1)=_;rw[c];rfl
noncomputable def orb(m:Nat):Nat->Nat->dD
 |0,_=>[]
 |r+1,i=>i::orb m r ((i*5+1)%(m+1))
theorem Qlh(m i:Nat):lcg m 1 i=(i*5+1)%(m+1):=rfl
theorem Qkz(m:Nat):∀(r i x:Nat),x∈orb m r i->∃b,b<r/\lcg m b i=x:=by
 intro r
 induction r with
 |zero=>
  intro _ _ h;show uO h
 |succ r a=>
  intro i x h
  show qI h
  ·exact⟨0,by exact Fx _,rfl⟩
  ·obtain⟨b,c,e⟩:=a _ x h;refine⟨1+b,aU,?_⟩;rw[G0,Qlh];exact e
def Full(m:Nat):Prop:=(List.range (m+1)).all (λx=>(orb m (m+1) 0).contains x)=true/\lcg m (m+1) 0=0
theorem full7:Full 7:=by unfold Full;show rQ
theorem full31:Full 31:=by unfold Full;show rQ
theorem Qdm(F:AD)(a:x<=m):∃b,b<m+1/\lcg m b 0=x:=by
 have:=NV.mp F.1 x (Ek.mpr (Nk a uP));rw[Ou]at this;exact Qkz m _ _ _ this
theorem QlV(F:AD)(hi:i<=m)(c:x<=m):∃r,r<m+1/\lcg m r i=x:=by
 obtain⟨a,e,rfl⟩:=Qdm F hi;obtain⟨b,d,rfl⟩:=Qdm F c
 by_cases h:a<=b
 ·exact⟨b-a,by exact Nk wZ d,by rw[<-G0];congr 1;exact IT h⟩
 ·refine⟨m+1-a+b,aU,?_⟩;rw[<-G0,show a+(m+1-a+b)=(m+1)+b by lia,G0,F.2]
theorem Qk1(F:AD)(h:Int)(a:x<=m):∃k,k<=m+12/\eN=x:=by
 obtain⟨r,b,e⟩:=QlV F (Qlw m h 12) a;exact⟨12+r,aU,(QoB m h r).trans e⟩
theorem Qlq[BEq b][LawfulBEq b]:∀(l k:gN b),l.Nodup->(∀x∈l,x∈k)->l.length<=k.length:=by
 intro l
 induction l with
 |nil=>
  intro _ _ _;exact Eg _
 |cons x l f=>
  intro k a c;rw[ES]at a;have e:=c x NG;have:=f (k.erase x) a.2 λy d=>zp3 a c y;rw[F3 e]at this;have:0<k.length:=IB e;simp only[N6];lia
theorem QoV{l:dD}(b:l.length<=m):∃x,x<=m/\x∉l:=by
 refine DA (fX z);have:=Qlq (List.range (m+1)) l YaG λx a=>DA λy=>z ⟨x,by have:=Ek.mp a;lia,y⟩;rw[DW]at this;exact EU b this
#print "-Sb"
namespace St
theorem QjP:Slot "set_iterator" "__iter__" "set_iterator.__iter__":=.of (owner:="set_iterator") (n:="__iter__") Ho bB bB bB (by first|exact .inl bB|exact .inr bB) B1
theorem QlT:entryFor table "set_iterator.__iter__"=jd1:=Ld (id':="dict_keyiterator.__iter__") qM rfl bB qM
theorem QnD(a:Value):argsOk "set_iterator.__iter__" ze1:=Hk
section
variable{prog:Program}{w:World}{A:Around}{E:bI}{s:Shared}
noncomputable abbrev Qik(f:Value)(i:Nat)(S:Addr)(n a:Nat):Obj:={ cls:=zz6,data:=.fields #[f,sJ i,aG S,sJ n,sJ a] }
inductive How(w:World)(S T:Addr)(h:Heap)(es:i6)(ep:Nat)(t:SetTable)(vs:aZ):Nat->MP where
 |tup {i:Nat} {ps:dD} (hT:aI h T=sO { cls:=jO,data:=.seq (zt2 p) 0 }) (hl:ps.length=vs.length) (hp:∀(j p:Nat),ps[j]?=sO p->∃e,es[p]?=sO e/\vs[j]?=sO e.2):How w S T h es ep t vs i (aC T)
 |text {i:Nat} (c:Nat) (hb:Hi=true) (hv:vs=(pickOrder (w.params.setOrder S ep) es).toList.map (·.2)):jh0
 |slots {i:Nat} (c:Nat) (hb:Hi=false) (hled:t.led=true) (hs:AW) (hv:vs=es.toList.map (·.2)) (hc:zv4=i):jh0
def ItT(w:World)(I S T:Addr)(vs:aZ)(i:Nat)(h:Heap):Prop:=
 ∃f o a b t,aI h I=sO (Qik f i S vs.length b)/\aI h S=sO o/\o.data=.set a b t/\t.fits a.size=true/\(t.plain=true\/a.size<=1->Mr)/\a.size=vs.length/\How w S T h a b t vs i f
theorem Yc{t:SetTable}(a:t.fits n=true):t.place.size=n:=by
 simp only[SetTable.fits,NL,beq_iff_eq]at a;exact a.1
theorem How.keep(x:How w S T h es n t vs i f)(k:∀o,aI h T=sO o->aI h' T=sO o):How w S T h' es n t vs i f:=by
 cases x with
 |tup m j g=>exact .tup (k _ m) j g
 |text c d b=>exact .text c d b
 |slots c d a e b l=>exact .slots c d a e b l
theorem Qmd(k:Nat):rawInt cT=Value.int k 0:=rfl
theorem QtL:(#[f,a,b,c,d]:dC).setIfInBounds 0 x=#[x,a,b,c,d]:=by rfl
theorem Qs1:(#[f,a,b,c,d]:dC).setIfInBounds 1 x=#[f,x,b,c,d]:=by rfl
theorem Qcl{h:Heap}(e:aI h I=sO (Qik f i S n a))(k:Nat)(x:Value):(h.update I (Obj.mapFields (·.setIfInBounds k x))).get? I=sO { cls:=zz6,data:=.fields ((#[f,sJ i,aG S,sJ n,sJ a]:dC).setIfInBounds k x) }:=N2 _ e rfl
theorem Qtq{h:Heap}(e:aI h I=sO (Qik f i S n a)):((h.update I (Obj.mapFields (·.setIfInBounds 0 x))).update I (Obj.mapFields (·.setIfInBounds 1 y))).get? I=sO { cls:=zz6,data:=.fields #[x,y,aG S,sJ n,sJ a] }:=by
 have g1:=Qcl e 0 x;rw[QtL]at g1;exact N2 (Obj.mapFields (·.setIfInBounds 1 y)) g1 rfl
theorem Wm(g:bK S=sO o)(f:o.data=wW d)(b:sW)(a:Hi=true)
  (h:Q (((pickOrder (Tp d) es)[i]?).map λe=>(e.2,c)) s):wpAny aX A (setNext S c i d) Q E s:=by
 unfold setNext;show zm3 g f b;rw[bW a];rw[if_neg aF];show pW;unfold setWalk;show zm3 g f b;rw[bW a];refine Na (Da f6);exact Nj h
theorem G7(f:bK S=sO o)(d:o.data=wW c)(b:sW)(a:es[p]?=sO e)(h:Q e.2 s):wpAny aX A (setNextDrawn S p c) Q E s:=by
 unfold setNextDrawn;refine Na (N1 f d b ?_);dsimp only;rw[if_neg aF,a];exact Nj h
theorem YO(l:bK S=sO o)(g:o.data=wW f)(e:sW)(d:Hi=false)(a:t.led=true)(b:AW)
  (h:Q (match es[zv4]?,t.place[zv4]? with|some (_,x),sO j=>sO (x,j+1)|_,_=>nO) s):wpAny aX A (setNext S c i f) Q E s:=by
 unfold setNext;show zm3 l g e;rw[if_neg (jA d)];show wpAny _ _ (if zs8=true then _ else _) _ _ _
 rw[if_neg (by
  show iP b z
  ·rw[z];simp
  ·have:¬zl4:=by exact N7.mpr z
   simp[this])]
 show wpAny _ _ ((if(!t.led&&!es.isEmpty)=true then jn6 else CW)>>=_) _ _ _;rw[if_neg (jA a)];exact Na (Nj (Nj h))
theorem next_item{i:Nat}(G:S≠I)(F:T≠I)(st:jB1)(hi:i<vs.length)
  (X:∀v h',C0->ItT w I S T vs (i+1) h'->lQ I->Q j1 { s with heap:=h' }):wpAny aX A (pyNext (aC I)) Q E s:=by
 obtain⟨f,o,n,H,t,m,u,r,l,up,h,hw⟩:=st;have U:s.TypeIs (aC I) "set_iterator":=gH m
 show zS5 U m l h;have d:∀(x y:Value),Heap.SameBut I s.heap ((s.heap.update I (Obj.mapFields (·.setIfInBounds 0 x))).update I (Obj.mapFields (·.setIfInBounds 1 y))):=λx y=>(Ea ..).trans uH
 have O:∀(x:Value) (nx:Nat),vs[i]?=sO x->How w S T s.heap n H t vs (i+1) (.int nx 0)->wpAny aX A.in1 (do
   setField (Ad I) 0 (rawInt (nx:Int))
   setField (Ad I) 1 (rawInt (eB+1))
   ret x) (λfin J=>∃v,Se/\wpAny aX A (pure j1) Q E J) (λe J=>wpAny aX A zm7 Q E J) s:=by
  intro x nx Z L;refine Na (ED m rfl aF (Na (ED (Qcl m 0 _) rfl aF (Nj ⟨x,rfl,Nj (X x _ Z ?_ (d _ _))⟩))));refine⟨.int nx 0,o,n,H,t,Qtq m,?_,r,l,up,h,L.keep (bQ Y e)⟩
  ·rw[(d _ _).2 S G];exact u
  ·rw[(d _ _).2 T F];exact e
 cases hw with
 |@tup ps D R P=>
  show jq8 D;have j:ps[i]?=sO ps[i]:=Nl (Np hi (dX R));generalize ps[i]=q at j;obtain⟨e,he,z⟩:=P i q j;have:((ps.map λ(p:Nat)=>oR p).toArray)[i]?=sO (Value.int (q:Int) 0):=by simp[j,Qmd]
  rw[this];dsimp only;refine Na (G7 u r l (p:=q) he (Na (ED m rfl aF (Nj ⟨e.2,rfl,Nj (X e.2 _ z ?_ uH)⟩))));have N:Heap.SameBut I s.heap (s.heap.update I (Obj.mapFields (·.setIfInBounds 1 (rawInt (eB+1))))):=Ea ..;refine⟨aG T,o,n,H,t,?_,by rw[N.2 S G];exact u,r,l,up,h,How.keep (.tup D R P) λY e=>by rw[N.2 T F];exact e⟩;have g:=Qcl m 1 (rawInt (eB+1));rw[Qs1]at g;exact g
 |text c C z=>
  simp only[EW];refine Na (Wm u r l (i:=i) (c:=c) C ?_);subst z;have a:i<(pickOrder (Tp H) n).size:=by simpa using hi
  rw[Ef a];exact O _ c ju7 (.text c C rfl)
 |slots c C b M z hc=>
  simp only[EW];refine Na (YO u r l (i:=i) (c:=c) C b M ?_);subst z;have a:i<n.size:=by simpa using hi
  have B:i<t.place.size:=by rw[Yc l];exact a
  rw[hc,Ef a,Sb.at_get B];exact O n[i].2 (Sb.At t.place i+1) ju7 (.slots _ C b M rfl (Sb.below_next (up M) B))
theorem Qcy(hh:B.handled=nO)(d:∀h',(∀b o,bK b=sO o->aI h' b=sO o)->jy7) :
  wpAny aX B (zr6>>=raiseNew) (λ(fin:Fin) c=>∃v,Se/\wpAny aX A (pure j1) Q E c) (λe c=>wpAny aX A zm7 Q E c) s:=by
 show pW;show zS6;rw[hh];refine jy8;refine Na (IE (T:="StopIteration") (b:=true) ⟨_,fM,rfl⟩ isSubtype_stop ?_);refine Nj (d _ ?_);exact λb o e=>Ph e
theorem next_end(hh:jU)(J:S≠I)(H:T≠I)(st:ItT w I S T vs vs.length s.heap)
  (z:∀h',Heap.ExtBut I s.heap h'->jy7):wpAny aX A (pyNext (aC I)) Q E s:=by
 obtain⟨f,o,C,L,t,h,u,r,n,up,d,hw⟩:=st;have y:s.TypeIs (aC I) "set_iterator":=gH h
 show zS5 y h n d;have B:TY:=hh
 have one:wpAny aX A.in1 (do
   setField (Ad I) 2 Value.none
   raiseNew (<-newExc jl5 [])) (λ(fin:Fin) j=>∃v,Se/\wpAny aX A (pure j1) Q E j) (λe j=>wpAny aX A zm7 Q E j) s:=by
  refine Na (ED h rfl aF (Qcy B jj8));rw[(Ea ..).2 b a];exact e
 cases hw with
 |@tup ps m F M=>
  show jq8 m;rw[show((ps.map λ(p:Nat)=>oR p).toArray)[vs.length]?=nO by simp[F]];refine Na (ED h rfl aF (Na (ED (Qcl h 0 _) rfl aF (Qcy B jj8))));rw[((Ea s.heap I _).trans uH).2 b a];exact e
 |text c a x=>
  simp only[EW];refine Na (Wm u r n (i:=vs.length) (c:=c) a ?_);rw[show(pickOrder (Tp L) C)[vs.length]?=nO by rw[x];simp];exact one
 |slots c a g D x G=>
  simp only[EW];refine Na (YO u r n (i:=vs.length) (c:=c) a g D ?_);rw[G,show C[vs.length]?=nO from Oj (Nu d)];exact one
theorem Qrb(st:jB1)(h:Q (aC I) s):wpAny aX A (pyIter (aC I)) Q E s:=by
 obtain⟨f,o,c,d,t,b,_⟩:=st;have a:s.TypeIs (aC I) "set_iterator":=gH b
 refine Lv a QjP (EE QjP a QlT ?_ (QnD _));exact Nj ⟨_,rfl,"set_iterator",_,a,slotN.lookup,h⟩
theorem Qjo(hh:jU)(I S T:Addr)(d:S≠I)(c:T≠I)(vs:aZ) :
  Walks prog w A I [I,S,T] [I] vs.length (λi v=>C0) (λi h=>ItT w I S T vs i h) where
 sub:=zx6 a
 frame:=λi h g z k=>by
  obtain⟨f,o,y,B,t,F,D,C,u,up,l,hw⟩:=z;exact⟨f,o,y,B,t,k I aF _ F,k S aF _ D,C,u,up,l,hw.keep λo e=>k T aF o e⟩
 item:=λi s Q E r st m=>next_item d c st r λv g p j n=>m v g s.toks p j λb o a e=>by rw[n.2 b (l6 a)];exact e
 done:=λs Q E st m=>next_end hh d c st λg x=>m g s.toks λb o a e=>x b o (l6 a) e
 self:=λi s Q E st q=>Qrb st q
noncomputable abbrev atP(es:i6)(i:Nat):Value:=(es.getD i (0,.none)).2
theorem QdC{ps:dD}(p:ps.Perm zy5):(ps.map PP).Perm (es.toList.map (·.2))/\∀(j q:Nat),ps[j]?=sO q->∃e,es[q]?=sO e/\(ps.map PP)[j]?=sO e.2:=by
 constructor
 ·refine(p.map _).trans ?_
  have:(List.range es.size).map PP=es.toList.map (·.2):=by
   apply DU;intro j;rw[Nx,Nx]
   by_cases lt:j<es.size
   ·simp[atP,Array.getD,lt]
   ·rw[Er (by simpa using lt),Er (by simpa using lt)];rfl
  rw[this]
 ·intro j q a;have lt:q<es.size:=Ek.mp (p.mem_iff.mp (Pf j a));refine⟨es[q],Ef lt,?_⟩;rw[Nx,a];simp[atP,Array.getD,lt]
theorem QpY{es:i6}(f:bK S=sO o)(O:o.ExactSet)(x:o.data=wW B)(u:sW)(up:AW->Mr)(y:t.led=ledW w)(hz:zE9)
  (h:∀h' d I T (vs:aZ),(∀b o,bK b=sO o->aI h' b=sO o)->s.heap.objs.size<=I->(T=S\/zA2)->S≠I->T≠I->vs.Perm (es.toList.map (·.2))->vs.length=es.size->ItT w I S T vs 0 h'->Q (aC I) { s with heap:=h',drawn:=d }) :
  wpAny aX A (pyIter (aC S)) Q E s:=by
 have H:s.TypeIs (aC S) "set":=⟨o,f,O.1⟩
 have l:=ND f;refine Lv H F.slot_set_iter (EE F.slot_set_iter H Qnm ?_ (F.args_set_iter_1 _));unfold Builtin.«frozenset.__iter__» Builtin.Frozenset.slot0;refine Na (Na (Nj f6));unfold Builtin.Frozenset.sizeOf;refine Na (Na (IU f x u f6));refine Na (Na (N1 f x u ?_));dsimp only;unfold setsByText;refine Na (Na (Da (Nj f6)));show wpAny _ _ (if(! zs0&&zs8)=true then _ else _) _ _ _
 have made:∀(c:Int) (vs:aZ),c=0->vs.Perm (es.toList.map (·.2))->How w S S (s.heap.push (Qik (.int An 0) 0 S es.size B)) es B t vs 0 (.int An 0)->wpAny aX A.in1 (do
   let first <-pure (rawInt c)
   ret (<-newFields "set_iterator" [first,rawInt 0,eK S,rawInt (es.size:Int),rawInt ((<-setEpoch S):Int)])) (λfin G=>∃v,Se/\∃J r,G.TypeIs v J/\typeLookup (Value.type J) (Str.ofString "__next__")=pure (sO r)/\Q v G) E s:=by
  intro c vs R p hw;subst R;refine Na (Nj (Na (wpAny_setEpoch_of f x u (Na (Eh (Nj ⟨_,rfl,"set_iterator",_,⟨_,fM,rfl⟩,slotN.lookup,?_⟩))))));have a:es.size=vs.length:=by rw[p.length_eq,Nz,NR]
  refine h _ s.drawn s.heap.objs.size S vs (λb N e=>k8) cO fE (NY l) (NY l) p a.symm ?_;exact⟨.int An 0,o,es,B,t,by rw[<-a];exact fM,Nq _ f,x,u,up,a,hw⟩
 cases n:Hi with
 |true=>
  rw[if_neg aF];exact made 0 ((pickOrder (Tp B) es).toList.map (·.2)) rfl ((Qa0 _ es).map _) (.text 0 n rfl)
 | false=>
  have m:t.led=true:=by rw[y];simp[ledW,n]
  by_cases D:wA/\zl4
  ·rw[if_pos (by simp[D.1,D.2])];refine Na (WV es.size zy5 s _ aF λps d p=>?_);have C:ps.length=es.size:=by rw[p.length_eq,DW]
   refine Na (wpAny_newTuple ?_ (by rw[Nz,C];exact hz));refine Na (wpAny_setEpoch_of (s:={ s with drawn:=d,heap:=s.heap.push { cls:=jO,data:=.seq (zt2 i) } }) (Nq _ f) x u ?_);refine Na (Eh (Nj ⟨_,rfl,"set_iterator",_,⟨_,fM,rfl⟩,slotN.lookup,?_⟩));obtain⟨M,L⟩:=QdC p;have a:es.size=(ps.map PP).length:=by rw[Nz,C]
   have g:(s.heap.push { cls:=jO,data:=.seq (zt2 i) }).objs.size=zC3:=Lb _ _;refine h _ d _ s.heap.objs.size (ps.map PP) (λb N e=>Ph e) (by show s.heap.objs.size<=zu8;rw[g];exact AB) (.inr cO) (by show S≠zu8;rw[g];exact NY (Fo l)) (by show s.heap.objs.size≠zu8;rw[g];exact NY uP) M a.symm ?_;refine⟨kE s,o,es,B,t,by rw[<-a];exact fM,Ph f,x,u,up,a,.tup (ps:=ps) (Nq _ (NF _ rfl)) (by rw[<-a,C]) L⟩
  ·have j:AW:=by
    cases P:t.plain with
    |true=>exact uG
    |false=>
     right
     rcases D6 1 es.size with z|z
     ·exact absurd (iI P z) D
     ·exact z
   rw[if_neg (by
    show iP j z
    ·rw[z];simp
    ·have:¬zl4:=by exact N7.mpr z
     simp[this])]
   exact made 0 (es.toList.map (·.2)) rfl .rfl (.slots 0 n m j rfl (Sb.below_zero (up j)))
theorem Qqt(d:s.TypeIs (aC S) "set")(h:Q false s):wpAny aX A (Builtin.List.listLengthHint (aC S)) Q E s:=by
 unfold Builtin.List.listLengthHint;refine Na (FO d F.slot_set_len.lookup ?_);generalize a:("set.__len__":String)=c
 wp_delta
 rw[show splitId c=sO ("set","__len__")from by subst a;show rQ];subst a;refine Na (IE (T:="set") (b:=true) d B1 ?_);refine L9 (λz=>absurd z aA) (λ_=>L9 (λ_=>?_) (λz=>absurd bB z));exact Na (FX d (Nj h))
noncomputable abbrev lsO(xs:dC)(c:Nat):Obj:={ cls:=eC,dict:=nO,data:=.seq xs c,slots:=#[] }
theorem Qlg(hh:jU)(Y:bK S=sO o)(H:o.ExactSet)(e3:o.data=.set es ep t)(ft:sW)(up:AW->Mr)(y:t.led=ledW w)(m:N≠S)(res:Value)(i:Nat)(hN:bK N=sO (lsO #[] i))(hz:zE9)
  (hR:∀h' d tk (vs:aZ) r,vs.Perm (es.toList.map (·.2))->(∀b o,b≠N->bK b=sO o->aI h' b=sO o)->aI h' N=zF0 r->R (.ok (.ret res)) { s with heap:=h',drawn:=d,toks:=tk }) :
  wpAny aX A.in1 (Builtin.List.listExtendWith (aC N) (aC S) res) (λfin l=>match fin with|.done f=>R (.ok f) l|.again r=>r.quiet=true/\codeAny aX A r R l) (λe l=>R (.error e) l) s:=by
 unfold Builtin.List.listExtendWith;refine Na (FX (T:="set") ⟨o,Y,H.1⟩ ?_);have n1:Builtin.List.listSameRef (aC N) (aC S)=false:=by simp[Builtin.List.listSameRef,m]
 have n2:(Value.type "set"==Value.type "list")=false:=a'
 have n3:(Value.type "set"==Value.type "tuple")=false:=a'
 simp only[n1,n2,n3,OS,FU,if_false];refine Na (QpY Y H e3 ft up y hz λX d I T vs D hI L O M str J st=>?_);have n:=D _ _ hN;have v:N<s.heap.objs.size:=ND hN;have Q:N≠I:=λz=>absurd hI (by rw[<-z];exact Ih.mpr v)
 have P:N≠T:=by
  show iP L z
  ·rw[z];exact m
  ·exact λe=>absurd z (by rw[<-e];exact Ih.mpr v)
 have Z:N∉[I,S,T]:=by
  show zx5;exact⟨Q,m,P⟩
 have W:=Qjo (prog:=prog) (w:=w) (A:=A.in1.in1) zN4 I S T O M vs
 have key:∀(C:Heap) (a:Nat),ItT w I S T vs 0 C->(∀b o,b≠N->bK b=sO o->aI C b=sO o)->aI C N=sO (lsO #[] a)->codeAny aX A (.builtin "list.extend.loop" ⟨[aG N,aG I,res],[]⟩) R { s with heap:=C,drawn:=d }:=by
  intro C a G k2 g;refine codeAny_extend_loopS (Walks.of_in1 W).toS (by rw[J];exact hz) N Z res vs.length 0 _ #[] a rfl uQ G g (ItemsOf.nil _) λl p r hm B h=>?_;rw[Moved.eq_with hm]
  have ea:p=vs.toArray:=by
   apply Array.ext_getElem?;intro j
   by_cases F:j<p.size
   ·have q:=h.2 j p[j] (Ef F);rw[Ef F,Dx,q]
   ·rw[Oj (mI F),Dx,Er (by have:=h.1;exact Ng yY (mI F))]
  rw[ea]at B;refine hR l.heap d l.toks vs r str (λb o c e=>hm.heap b o (sL x) (k2 b o c e)) B
  show C7 x z
  ·exact c z
  ·rw[j2 z]at e;exact absurd nP (N7.mpr hI)
 refine Na (ER (Qqt ⟨o,D _ _ Y,H.1⟩ ?_));refine L9 (λ_=>?_) (λ_=>Nj ⟨Lk O4 _,key X i st (λb o _ e=>D b o e) n⟩);refine Na (Ii (Na ?_));show wpAny _ _ (updateSeq N (·.push .none)>>=λ_=>updateSeq N (·.pop)) _ _ _;refine Na (L7 n rfl ?_);have g:=N2 (Obj.mapSeq (·.push Value.none)) n rfl;refine L7 (hz:=by seq_fits) g rfl ?_;have U:=N2 (Obj.mapSeq (·.pop)) g rfl;have u:∀b o,b≠N->aI X b=sO o->((X.update N (Obj.mapSeq (·.push Value.none))).update N (Obj.mapSeq (·.pop))).get? b=sO o:=λb o c e=>(N3 _ _ (EB c)).trans ((N3 _ _ (EB c)).trans e);refine Nj ⟨Lk O4 _,key _ _ (W.frame 0 _ _ st λb c o e=>u b o (λz=>Z (BP z c)) e) (λb o c e=>u b o c (D b o e)) U⟩
theorem Qhq(hh:jU)(m:bK S=sO o)(p:o.ExactSet)(y:o.data=wW z)(x:sW)(up:AW->Mr)(j:t.led=ledW w)(hz:zE9)
  (h:∀h' d tk (vs:aZ),vs.Perm (es.toList.map (·.2))->(∀b o,bK b=sO o->aI h' b=sO o)->zV6):wpAny aX A (collect (aC S)) Q E s:=by
 unfold collect;refine Na (wpAny_runValue (Fj entry_proto_collect' (show wpAny _ _ (do again (.builtin "list.__iadd__" ⟨[<-newList [],aG S],[]⟩)) _ _ s from ?_)));refine Na (wpAny_newList (Nj ⟨F0 _ bB,Fj (entry_list_iadd') ?_⟩));have l:=ND m;rw[FD F.plain_list_iadd _]
 have fin:∀(r:Result) (c:Shared),(r=.ok (.ret i4)/\∃h' d tk,∃vs:aZ,∃g,vs.Perm (es.toList.map (·.2))/\(∀b o,bK b=sO o->aI h' b=sO o)/\zU2)->(match r with
   | .ok (.ret v)=>wpAny aX A (match v with
    |aG a=>do
     match (<-load a).data with
     |.seq n _=>pure n.toList
     |_=>jl6
    |_=>jl6) Q E c
   |.ok _=>False
   |.error e=>E e c):=by
  rintro r c ⟨rfl,h',d,tk,vs,g,str,k,hN,rfl⟩
  refine Na (wpAny_load hN ?_);show wpAny _ _ (pure vs.toArray.toList) Q E _;rw[Dq];exact Nj (h h' d tk vs str k (Nv (ND hN)))
 refine NZ (Qlg (A:=A) (s:={ s with heap:=s.heap.push (lsO #[] 0) }) (R:=λr c=>r=.ok (.ret i4)/\∃h' d tk,∃vs:aZ,∃g,vs.Perm (es.toList.map (·.2))/\(∀b o,bK b=sO o->aI h' b=sO o)/\zU2) hh (Nq _ m) p y x up j (DP l) i4 0 (NF _ rfl) hz λh' d tk vs g str k hN=>⟨rfl,h',d,tk,vs,g,str,λb o e=>k b o (NY nP) (Nq _ e),hN,rfl⟩) ?_ ?_
 ·intro f c q;cases f with
  |done f=>exact fin _ _ q
  |again g=>exact⟨q.1,D1 q.2 λr i u=>fin r i u⟩
 ·intro e c q;exact fin _ _ q
#print "-"
theorem Qdo:∀(ks a:aD),ks.Nodup->(∀k∈ks,k∈a)->a.length=ks.length->a.Perm ks:=by
 intro ks
 induction ks with
 |nil=>
  intro a _ _ h;rw[CU]
 |cons k r f=>
  intro a b c h;have e:=c k NG;rw[ES]at b;refine(OL e).trans (List.Perm.cons k (f (a.erase k) b.2 (mK x d) ?_))
  ·exact zp3 b c x
  ·rw[F3 e,h];rfl
section
variable{prog:Program}{w:World}{A:Around}{E:bI}{s:Shared}
theorem Qml{h:Heap}{a:Addr}{led:Bool}{es:i6}(h1:ElemsOf Bh es.toList)(m:ks.Nodup)(l:es.size=ks.length)(j:∀k,k∈ks↔∃e∈es.toList,y9)(p:vs.Perm (es.toList.map (·.2))):∃ss,zR0/\Cg:=by
 have b:∀v∈vs,∃x c,v=PU:=λv b=>by
  obtain⟨e,g,rfl⟩:=NI.mp (p.mem_iff.mp b);obtain⟨⟨k,f,_⟩,_⟩:=h1 e g;obtain⟨c,i⟩:=D7 f;exact⟨k,c,i⟩
 refine⟨vs.map strOf,strsAre_map vs b,Qdo ks _ m (mK k f) ?_⟩
 ·obtain⟨e,g,d⟩:=(j k).mp f;obtain⟨c,i⟩:=D7 d;exact NI.mpr ⟨e.2,p.mem_iff.mpr (NI.mpr ⟨e,g,rfl⟩),u8 i⟩
 ·rw[Nz,p.length_eq,Nz,NR,l]
theorem Qju{t:SetTable}(b:t.fits n=true)(c:n<=1):Mr:=λi j d a=>by
 rw[Yc b]at a;omega
theorem Qho(hh:jU)(n:SetL prog w s.heap S ks m7)(hz:ks.length<=sizeLine)
  (h:∀h' d tk vs,(∃ss,zR0/\Cg)->(∀b o,bK b=sO o->aI h' b=sO o)->zV6):wpAny aX A (collect (aC S)) Q E s:=by
 obtain⟨o,x,B,t,u,m,r,i,v,j,e,f,g,l,c⟩:=n;refine Qhq hh u m r j (sL z) e (by rw[l];exact hz) λh' d tk vs p=>h h' d tk vs (Qml (h:=s.heap) (a:=S) (led:=true) i g l c p)
 show kP z
 ·show iP f y
  ·exact Qju j (Nv (Nk (Nu y) aA))
  ·show bT z y
 ·exact Qju j z
theorem sortedS'(hh:jU)(x:SetL prog w s.heap S ks m7)(hz:ks.length<64)
  (h:∀(D:Addr) h' d tk (vs:aZ) (ss:aD) c,zR0->Cg->XV->(∀b o,bK b=sO o->aI h' b=sO o)->s.heap.objs.size<=D->aI h' D=zF0 c->Q (aC D) { s with heap:=h',drawn:=d,toks:=tk }) :
  wpAny aX A (call (.builtin "sorted") [aG S]) Q E s:=by
 refine Calls.call_function_entry kind_sorted plain_sorted entry_sorted (args_sorted1 _) ?_;unfold Builtin.«sorted»;refine Na (m:=checkCount "sorted" 1 1 _) (Nj (Na (Qho zN4 x (by rw[DB];exact Nv (EG hz aA)) λl d tk vs str r j=>?_)));obtain⟨ss,st,pm⟩:=str;have g:vs.length<64:=by rw[Lc st,pm.length_eq];exact hz
 refine Na (wpAny_newList ?_ (by rw[DB];exact Nv (EG g aA)));have a:(l.push zt3).get? l.objs.size=sO zt3:=fM;refine Na (ER (EE slot_list_sort (gH a) entry_list_sort (list_sort_treeK (κ:=PyProof.Rows.strKind) strKind_oneLt a st.keysOf (λp n rest e=>keyKind_strs (by rw[<-e];exact st)) g λf F C=>⟨_,rfl,?_⟩) (args_list_sort _)));obtain⟨i,B,z,y⟩:=sorted_out_str st F C;obtain⟨c,v⟩:=sortedHeap_at (out:=(arrOf f).map (·.2)) a;refine Nj ⟨_,rfl,h l.objs.size _ d tk ((arrOf f).map (·.2)).toList i c B (z.trans pm) y (jJ b o e) j ?_⟩
 ·have t:=Nq zt3 (r b o e);rw[sortedHeap_old (NY (ND (r b o e))) (ND t)];exact t
 ·rw[Array.toArray_toList];exact v
#print "-"
theorem le_of_lt{a b:Str}:ltCps b.cps.toList a.cps.toList=false↔a.cps.toList<=b.cps.toList:=by
 rw[ltCps_eq,decide_eq_false_iff_not];exact Iff.rfl
theorem Y7:∀(x:Str) (r:aD),risingS x r=true->∀z∈r,x.cps.toList<=z.cps.toList
 |x,[],_,z,hz=>by cases hz
 |x,y::r,h,z,hz=>by
  have h':zY3:=h;rw[NL,Fp]at h';have a:=le_of_lt.mp h'.1
  rcases NC.mp hz with rfl|hz
  ·exact a
  ·exact List.le_trans a (Y7 y r h'.2 z hz)
theorem Ux(h:sortedS iQ=true):sortedS r=true:=by
 cases r with
 |nil=>rfl
 |cons y r=>
  have a:zY3:=h;rw[NL]at a;exact a.2
theorem str_eq{a b:Str}(h:ju8):a=b:=by
 obtain⟨a⟩:=a;obtain⟨b⟩:=b;congr 1;exact Array.toList_inj.mp h
theorem U3:∀(a b:aD),a.Perm b->sortedS a=true->sortedS b=true->a=b
 |[],b,p,_,_=>(List.nil_perm.mp p).symm
 |x::r,[],p,_,_=>by cases List.perm_nil.mp p
 | x::r,y::t,p,d,c=>by
  have e:x=y:=by
   have g:y∈x::r:=p.mem_iff.mpr NG;have f:x∈y::t:=p.mem_iff.mp NG
   show C7 g z
   ·exact z.symm
   ·show C7 f q
    ·exact q
    ·exact str_eq (List.le_antisymm (Y7 x r d y z) (Y7 y t c x q))
  subst e;rw[U3 r t (List.Perm.cons_inv p) (Ux d) (Ux c)]
open Classical in
noncomputable def srt(ks:aD):aD:=if h:∃a:aD,a.Perm ks/\sortedS a=true then h.choose else[]
theorem srt_eq(p:Cg)(h:XV):srt ks=ss:=by
 have a:∃ss:aD,Cg/\XV:=⟨ss,p,h⟩
 unfold srt;rw[dif_pos a];exact U3 _ _ (a.choose_spec.1.trans p.symm) a.choose_spec.2 h
#print "-St"
namespace Mi
open L2
noncomputable def txW:aH->Option C6
 |[]=>sO []
 |aJ x::r=>(txW r).map (x::·)
 |_=>nO
@[simp]theorem QbT(l:aD):txW (gW l)=sO l:=by
 induction l with
 |nil=>rfl
 |cons x l a=>rw[NA,txW,a];rfl
theorem QjR{ws:aH}{ss:aD}(e:txW ws=sO ss):ws=ss.map .str:=by
 induction ws generalizing ss with
 |nil=>cases e;rfl
 | cons w r a=>
  cases w with
  |str x=>
   show l8 t b e;rw[a b];rfl
  |_=>cases e
theorem Qjp{K:Nd}:∀{ss:aD} {xs:bD} {us:aZ},Rws K R zD xs->lC->StrsAre us ss:=by
 intro ss
 induction ss with
 |nil=>
  intro xs us r v;rw[D4,Rws.nil_iff]at r;show lK r v;exact .nil
 | cons x ss d=>
  intro xs us r v;rw[NA]at r;unfold Rws at r;obtain⟨y,e,rfl,a,b⟩:=r;show fG a;subst a;cases v with
  |cons h t=>
   show aO c h;exact .cons x c (d b t)
theorem Qgc{K:Nd}{ss:aD}{us:aZ}(h:StrsAre us ss):Vals (ss.map V.str) us/\Rws K R (ss.map W.str) (ss.map V.str):=by
 induction h with
 |nil=>exact⟨.nil,by unfold Rws;rfl⟩
 |cons x c h a=>
  refine⟨.cons (hL c) a.1,?_⟩;rw[NA,NA];unfold Rws;exact⟨_,_,rfl,Bj,a.2⟩
noncomputable def Qs4(ws:aH)(h:MH):bJ:=match ws with
 |[a]=>(lsW h a).bind λc=>(txW c).bind λb=>if b.length<64 then sO (.lst ((St.srt b).map .str),h)else nO
 |_=>nO
noncomputable def Kv(ws:aH)(h:MH):bJ:=match ws with
 |[a]=>(lsW h a).bind λc=>(txW c).bind λb=>if b.length<4000/\(St.uniq b).length<64 then sO (oG,h++[jl7 b])else nO
 |_=>nO
section
variable{X:Cx}
theorem Inv.drew(I:cF a σ)(d:Drawn):Inv X a σ H { s with drawn:=d }:=⟨I.ok,I.os,I.bare,I.base,I.loc,I.cell,I.free,I.freeC,I.pin,I.hok,I.len⟩
theorem K9{p1 O l g:Pos}(U:gR)(hg:Gl X "sorted")(hm:X.mg "sorted"=nO)(G:zi8)(C:zc8)(he:zl5)(T:kN:=by rfl) :
  PM X (.Call (.Name "sorted" p1) [Sr O g] [] l) (mFn Kv (Qb me Ql)):=by
 intro m s σ H Q I r;obtain⟨R,p,h,w,h',rh,st,e1,P⟩:=r;obtain⟨⟨as,h2⟩,e2,e3⟩:=eH e1;show cX a Z e4 e5 e2;obtain⟨⟨bs,h3⟩,e6,e7⟩:=eH e5;show oS e6 e7;refine EI (Ka I hg hm boot_sorted zu5 aA aA);rw[Zg (e:=Sr O g) rfl];refine EH (EI (Ka I G C boot_set (Em ?_ (Zg T) (VR rfl)) aA aA));rw[Zg T];refine EH (thn (he m s σ H (λv H2=>∃R2,kW R2/\Rh X.K R2 Z H2/\Rw X.K R2 a v) I ⟨R,p,h,a,Z,rh,st,e4,λR2 H2 v x f B=>⟨R2,x,f,B⟩⟩) (aP u M r));obtain⟨v,H1,I1,ru,R2,x2,f,B⟩:=r;refine DG ?_;obtain⟨ys,e8,e9⟩:=eH e3;obtain⟨ss,J,j⟩:=eH e9;split at j
 ·show eF S j;obtain⟨ad,xs,rfl,q1,N⟩:=f.lsAt B e8;cases ru;rw[QjR J]at N;obtain⟨aa,rv,pl,hl⟩:=As q1;have Y:=Qjp N rv;have E:=Lc Y;refine St.set_list (I1.ok.hd U) pl.isList (by rw[Dq];exact Y) (jk4 E) λg1 y i k1=>DG ?_;refine St.sortedS' (s:={ M with heap:=g1,toks:=y }) (I1.ok.hd U) i S.2 λD g2 d t vs L c b1 b2 b3 k2 F hD=>?_;obtain⟨v1,v2⟩:=Qgc (K:=X.K) (R:=R2) b1;have n:M.heap.objs.size<=D:=Ng (Nv i.lt) F;have hp:=I1.hok.fresh n;have eq:=St.srt_eq b2 b3;obtain⟨R3,x3,A,z⟩:=f.new (mo:=c7 L) (o:=.lst (L.map V.str)) hp λR' x'=>⟨_,rfl,(Qgc (K:=X.K) (R:=R') b1).2⟩
  rw[eq]at P;refine⟨aG D,_,Inv.drew (I1.laid (t':=t) (λb o e=>k2 b o (k1 b o nP e)) n (show ObjOk X.prog X.w _ _ _ (.lst _)from⟨?_,vs,c,v1,hD⟩)) d,rfl,P R3 _ _ (eI x2 x3) A z⟩;rw[Nz,b2.length_eq,DB];exact Nv (EG S.2 aA)
 ·cases j
#print "-"
#print "-Mi"
namespace St
open AutoSeq1 (wpAny_loadPart')
theorem QhB(l:Addr)(items:dC)(n:Nat)(dct:dW)(j:oZ) :
  Meets (Builtin.«enumerate.__new__» ⟨[zF1,aG l],[]⟩) (λ_ R s=>bK l=sO { cls:=jO,dict:=dct,data:=.seq items n,slots:=j } /\
   R (.ok (.ret (.ref (s.heap.push { cls:=SA,data:=.fields #[aG l,CF] }).objs.size)))
    { s with heap:=(s.heap.push { cls:=SA,data:=.fields #[aG l,CF] }).push { cls:=zF1,data:=.fields #[.none,pE,kE s,rawInt 0,.none,.none] } }):=
 .of_wp λe w A R s h=>by
  show oC m i;show AA a h;have f:=sub_enumerate;have b:Heap.IsTuple (Shared.heap (Rg m i)) l items:=⟨_,a,rfl,n,rfl⟩
  wp_walk using DE a
  refine wpAny_stack_any λst=>Nj ?_;split
  ·rename_i c _ _ _ _ _;cases(c==Value.type "enumerate")
   ·show zR1
    exact tT
   ·show zR1
    exact tT
  ·show zR1
   exact tT
section
variable{prog:Program}{w:World}{A:Around}{E:bI}{s:Shared}
theorem enumT(i:zx7)
  (h:∀h',IsEnum h' HA s.heap.objs.size 0 .none->h'.IsTupleIter s.heap.objs.size l 0->(∀b o,bK b=sO o->aI h' b=sO o)->Q (.ref HA) { s with heap:=h' }) :
  wpAny aX A (call (.type "enumerate") [aG l]) Q E s:=by
 obtain⟨⟨c,dct,j,f⟩,g,e,n,hd⟩:=i;show TQ e;refine callType_new F.called_enumerate aA (F.typeCall_enumerate_1 _) (F.newCall_enumerate_1 _) (λobj=>OM obj _) F.entry_enumerate_new (QhB l items n dct f) (xU g);have a:(s.heap.push { cls:=SA,data:=.fields #[aG l,CF] }).objs.size=zC3:=Lb ..;show _/\_;rw[a]
 have d:IsEnum ((s.heap.push { cls:=SA,data:=.fields #[aG l,CF] }).push { cls:=zF1,data:=.fields #[.none,pE,kE s,rawInt 0,.none,.none] }) HA s.heap.objs.size 0 .none:=by
  rw[<-a];exact fM
 exact⟨gH d,h _ d ⟨_,Nq _ (NF _ rfl),rfl,rfl⟩ λb o x=>Ph x⟩
theorem QdJ(hit:jv0)(e:zx7)(d:rJ=sO x)
  (g:∀h',h'.IsTupleIter it l (i+1)->zz5 h'->Q x { s with heap:=h' }):wpAny aX A (Builtin.SmallTypes.nextOf iE) Q E s:=by
 show zT0 a f c e;refine(show wpAny _ _ (field iE 0>>=_) _ _ s from Na (Es a hd (x:=aG l) rfl (show wpAny _ _ (if(eK l==Value.none)=true then _ else _) _ _ s from ?_)));rw[if_neg (show¬((eK l==Value.none)=true)from EC)];refine(show wpAny _ _ (field iE 1>>=_) _ _ s from Na (Es a hd (x:=sJ i) rfl ?_));refine(show wpAny _ _ (seqItems? (aC l)>>=_) _ _ s from Na (Ia b c ?_));simp only[EW,d];refine Na (ED a hd aF (Nj ⟨x,rfl,Nj (g _ ⟨_,zF2 a,(Yaw ..).trans f,by rw[Ei hd];simp[rawInt]⟩ uH)⟩))
theorem Qfb(hh:jU)(hit:jv0)(g:zx7)(f:rJ=nO)
  (h:∀h' e,jy9->(∃o,aI h' e=sO o/\o.cls=.type "StopIteration")->E (aC e) { s with heap:=h' }):wpAny aX A (Builtin.SmallTypes.nextOf iE) Q E s:=by
 show zT0 c j d g;refine(show wpAny _ _ (field iE 0>>=_) _ _ s from Na (Es c hd (x:=aG l) rfl (show wpAny _ _ (if(eK l==Value.none)=true then _ else _) _ _ s from ?_)));rw[if_neg (show¬((eK l==Value.none)=true)from EC)];refine(show wpAny _ _ (field iE 1>>=_) _ _ s from Na (Es c hd (x:=sJ i) rfl ?_));refine(show wpAny _ _ (seqItems? (aC l)>>=_) _ _ s from Na (Ia b d ?_));simp only[EW,f];refine Na (Ii (Na (ED c hd aF (Na ?_))));show zS6
 first|rw[show TY from hh]|rw[hh]
 exact Na (Nj (wpAny_throw (h _ _ (((Ea ..).extBut.push _).push _) ⟨_,fM,rfl⟩)))
theorem tit_at{h h':Heap}(x:h.IsTupleIter a t i)(e:∀o,aI h a=sO o->aI h' a=sO o):h'.IsTupleIter a t i:=by show fH o b r x;exact za7
theorem Qc5{h h':Heap}(x:h.IsTuple a items)(e:∀o,aI h a=sO o->aI h' a=sO o):h'.IsTuple a items:=by show fH o b r x;exact za7
theorem drawsT(hh:jU)(it l:Addr)(b:l≠it)(items:dC):Draws prog w A it [it,l] items.size (λi v=>rJ=sO v) (λi h=>zH1 l/\h.IsTuple l items) where
 live:=λ_ _ x=>let⟨o,h,_⟩:=x.1;⟨o,h⟩
 frame:=λ_ _ _ st d=>⟨tit_at st.1 λo e=>d it aF o e,Qc5 st.2 λo e=>d l aF o e⟩
 item:=λi s Q E f st g=>QdJ st.1 st.2 (x:=items[i]) (kS f) λm a c=>g _ m s.toks (kS f) ⟨a,st.2.extBut c.extBut b⟩ c
 done:=λs Q E st j=>Qfb hh st.1 st.2 aF j
#print "-"
#print "-St"
namespace L2
noncomputable def Ite(K:Nd)(a:Addr)(n:Nat):It:=
  ⟨λi H=>i<n/\∃b,qZ/\zX,
   λi H v c=>∃T x,v=aG T/\H T=nO/\c=upd H T (.tup [aL i,x])/\∀b,qZ->Cb,
   λi H=>n<=i/\∃b,qZ/\zX⟩
theorem Qfm{K:Nd}(l e it:Addr)(n:Nat)(c:e≠it)(C:l≠e)(B:l≠it):Turn P w K (.Tuple L kk pos) (Ite K l n) [e,it] e (λi h=>i<=n/\jl8/\zH1 l) where
 mem:=aY
 obj:=λi h st b d=>by
  show jl9;have j:zl6:=cL d
  show BZ j
  show SI g
  ·exact⟨Z,M,λv q=>by show bT d1 q⟩
 keep:=λi h h' st k=>by
  obtain⟨m,⟨old,g⟩,h1⟩:=st;exact⟨m,⟨old,k e aF _ g⟩,St.tit_at h1 λo x=>k it aF o x⟩
 item:=by
  intro X J hw hK hc i z s σ H E I Y st hg;show RZ;obtain⟨a,R,p,hz⟩:=eQ S;show jz0;have W:=Iu (prog:=X.prog) (w:=X.w) zX4 e c Tq aF;refine W.item i s _ _ zZ1 ⟨O,Q,p⟩ jm0;obtain⟨t,u,hu,rfl⟩:=J;refine⟨aG T,rfl,jf2⟩;show zU3;have M:v=u:=jc1
  subst M;have ae:=W.apart i T _ f
  have af:IsTup ai T #[PR,v]:=by
   show jf8
  have ah:=zN3;refine⟨aG T,_,I.turnedN (ch:=[e,it]) (t':=tk) (xs:=[aL i,x]) jh1 Y hT ⟨by simp[DB],[PR,v],.cons (hL t) (Cp r),af⟩,rfl,⟨T,x,rfl,ah,rfl,λys hy=>by rw[I.tuple_inj hy S];exact hx⟩,⟨m,G.1,G.2.1⟩,bQ b d⟩;rw[QE (sL q)]
  ·exact(Y b d).1
  ·obtain⟨o,U,_⟩:∃o,bK b=sO o/\True:=by
    show js8;have j:zl6:=cL d
    show BZ j
    show zd8 g
    ·exact⟨Z,M,trivial⟩
   show js7
 done:=by
  intro X J hw hK hc i z s σ H E I Y st hg;show RZ;obtain⟨a,R,p,hz⟩:=eQ S;show jv1;have W:=Iu (prog:=X.prog) (w:=X.w) zX4 e c Tq aF;have aa:a.toArray.size=i:=zQ4
  refine W.done s _ _ (by rw[aa];exact⟨O,Q,p⟩) zv2
  exact I.turnedL (ch:=[e,it]) (zE6 d) Y (xB e) (Co n) λb u n e=>by show bT n e
 self:=ja9
noncomputable def QqT(K:Nd)(f:TA):TI:=λd H R=>f d H λe c=>∃a b,e=[aG a]/\SqT K c a b/\R (Ite K a b.length) c
theorem Qkh{X:Cx}{i:eE}(F:TZ)(D:T6)(G:PA X [a] v)(A:qA:=by rfl) :
  PI X (.Tuple i P j) RG (QqT X.K v):=by
 show cZ d o R;refine Call_ (Ka I F D boot_enumerate (Em (thn (rE G d o h) (aP M c r)) A rfl));show cA L J I1 x y r;show za1 t B y;show oW w x;obtain⟨z,O,l,Q⟩:=I1.tuple B;have f:zB1:=let⟨_,C,_⟩:=l;ND C
 refine St.enumT l λS m hit E=>Iv m ?_;refine⟨Br c,[Br c,c.heap.objs.size],_,_,J,rfl,I1.kept (t':=c.toks) E,Qfm ad _ _ t.length (YaH _) (NY (Fo f)) (NY f),⟨Eg _,xW m,hit⟩,bQ b n,q⟩
 have g:c.heap.objs.size<=b:=by
  show zX5
 exact zx2 g
#print "-L2"
namespace Mi
open L2
noncomputable def Jt(ws:aH):aH:=ws.zipIdx.map zv5
noncomputable def Qda(ms:MA):MI:=λa h=>(ms a h).bind λp=>match p.1 with
 |[mL b]=>sO (Jt b,nO,p.2)
 |_=>nO
section
variable{K:Nd}{R:Rn}
theorem QgP(l:zb3)(r:gZ):ItOk K R (Ite K a xs.length) (Jt ws) nO where
 go:=λi w p h H x d _ e=>by
  have c:=cG e;show g6 g r;show SW;exact⟨by exact Np c (Nu g),xs,Jv (h9 d x) l,rfl⟩
 yld:=λi w p h H x G e d _ m s=>by
  obtain⟨T,C,rfl,u,rfl,t⟩:=s;show zZ2;show dI D A y B;cases y;show fY v g1 g2 r A;have n:=t xs (Jv (h9 d e) l);show bT g1 n;rw[NU];exact zV3
 stop:=λi p h H x d _ c=>by
  show g6 g r;show SW;exact⟨by exact Ng (dX g) c,xs,Jv (h9 d x) l,rfl⟩
#print "-"
section
variable{X:Cx}{tg a:Expr}{ms:MA}{p pos tpos:Pos}{elts:eE}{kk:Nat}
theorem QhX(x:TZ)(w:T6)(y:Mw)(u:qA:=by rfl):PMI X zx3 RG (Qda ms):=
 Gh (Qkh x w y u) λD H C j=>by
  obtain⟨R,c,h,items,o,G,t,st,e,k⟩:=j;show cX n z A d e;refine⟨R,c,h,n,z,t,st,A,fB R1 B E m b r⟩;split at d
  ·show Ry F f;show fG f;show zE7;exact⟨ad,l,rfl,Jv b.sub i,k R1 B _ m b (QgP i s)⟩
  ·cases d
#print "-"
theorem Qpu{K:Nd}(X:nQ)(G:tG b)(a:Bc=sO (sO (.str y t))):Glob K b x lE:=
 ⟨aJ y,_,CG,hL t,λ_=>Rw.str y⟩
theorem QcL:∀(l:List (c×b)),(l.map (·.1)).zip (l.map (·.2))=l:=by
 intro l
 induction l with
 |nil=>
  exact rfl
 |cons p l a=>
  rw[NA,NA,Yaj,a]
theorem Qle(f:Nat->cH):∀(o:MO),wQ->thO f o=sO o
 |eZ,p=>by show(ths f ws).map MO.lst=_;rw[Xl f ws p];rfl
 |.dic kvs,p=>by show(ths f (kvs.map (·.2))).map (λvs=>MO.dic ((kvs.map (·.1)).zip vs))=_;rw[Xl f _ p,Dp,QcL]
 |.dct kvs,p=>by show(ths f (kvs.map (·.2))).map (λvs=>MO.dct ((kvs.map (·.1)).zip vs))=_;rw[Xl f _ p,Dp,QcL]
 |.ins _ _,p=>fN p
theorem QaO:∀(ns:dD) (os:pR) (h:MH),T5->ZP ns os h=h:=by
 intro ns
 induction ns with
 |nil=>
  intro os h _;unfold ZP;rfl
 | cons n ns d=>
  intro os h e;unfold Vi at e;show fQ o a l e;show dI r j i l;subst i
  have g:h[n]?=sO o:=by
   unfold QdY at a;split at a
   ·show pI q b a
    ·cases a;exact b
    ·cases a
   ·cases a
  have f:h.set n o=h:=by
   obtain⟨c,b⟩:=Nh.mp g;rw[<-b];exact List.set_getElem_self c
  rw[ZP,f];exact d r h j
theorem Qie:∀(ns:dD) (os:pR) (h:MH),T5->ns.length=os.length/\∀o∈os,wQ:=by
 intro ns
 induction ns with
 |nil=>
  intro os h e;cases e;exact⟨rfl,λ_ b=>uN b⟩
 | cons n ns c=>
  intro os h e;unfold Vi at e;show fQ o a l e;show dI r j i l;subst i;obtain⟨g,f⟩:=c r h j;refine⟨oO g,bQ x b⟩
  show qI b
  ·unfold QdY at a;split at a
   ·split at a
    ·show eF d a;exact d
    ·cases a
   ·cases a
  ·exact f x b
theorem Qje{os:pR}(s:Wf 0 args=Pe)(hd:ns.Nodup)(c:T5)(e:m as os=sO (w,os++g))(hw:u7):zI0=cP w h:=by
 obtain⟨u,t⟩:=Qie ns os h c;show jc5 c;rw[zU7 v,Qcp _ w hw,Ni]
 have key:∀(f:Nat->cH) (k:Nat) (a:pR),(∀i o,a[i]?=sO o->(os++g)[k+i]?=sO o)->(∀o∈a,wQ)->Vi (λj=>((os++g)[j]?).bind (thO f)) js4=sO a:=by
  intro f k a
  induction a generalizing k with
  |nil=>intro _ _;rfl
  |cons x a p=>
   intro l d;rw[N6,IF];unfold Vi;have n:=l 0 x rfl;rw[Yag]at n;rw[n,Ni,p (k+1) (λi o b=>by have:=l (i+1) o (cD b);show jg2) (iV o r d),Qle _ x (d x NG)];rfl
 rw[u,IM,key _ 0 os (λi o b=>by rw[NU,Ew (cG b)];exact b) t,Ni];have:frN w=[]:=rfl;rw[this];simp[Vi,QaO ns os h c]
theorem Qe7(b:h[n]?=sO o)(po:wQ)(a:Wf 0 (aG n::ws)=sO (uT::ws,[n]))(e:m (uT::ws) [o]=sO (w,o::g))(hw:u7):box frN m (aG n::ws) h=cP w h:=
 Qje a aF (os:=[o]) (by simp[Vi,QdY,b,po]) e hw
noncomputable def frD:W->dD
 |.tup (aG j::_)=>[j]
 |_=>[]
@[simp]theorem Qr0:Qlz h (aC n)=match h[n]? with|yW=>sO kvs|_=>nO:=aW
@[simp]theorem Qs2:Qps a cM h=@ob _ _ (λkvs=>@om _ _ (λv=>(v,h)) (Qha kvs wY)) (Qlz h a):=aW
noncomputable def Qf6(o:W)(k:Key)(v:W)(σ:MSt)(h:MH):rG:=match o with
 |aG n=>match h[n]? with
  |yW=>zV2
  |_=>nO
 |_=>nO
@[simp]theorem QrW:QgN mo mi a σ h=@ob _ _ (λv=>@ob _ _ (λo=>@ob _ _ (λi=>@ob _ _ (λk=>Qf6 o.1 k v.1 σ i.2) (QmM i.1)) (mi σ o.2)) (mo σ v.2)) Cu:=by
 unfold QgN ob Qf6;rfl
@[simp]theorem Qst:QmM cM=sO wY:=aW
@[simp]theorem Qpz:Qf6 (aC n) k v σ h=match h[n]? with
  |yW=>zV2
  |_=>nO:=aW
@[simp]theorem Qsy:Qh4 σ h=sO (oG,h++uB):=aW
noncomputable def QiJ(a:W)(ws:aH)(h:MH):bJ:=match ws with
 |[b,v]=>(Qlz h a).bind λkvs=>(QmM b).map λk=>((Qha kvs k).getD v,h)
 |_=>nO
section
variable{X:Cx}
theorem QiB(G:vN):Qfq X "dict.get" QiJ:=by
 intro g s U H x Y v us Q I u B q;obtain⟨R,h,a,Z,w,h',f,E,d,e,k⟩:=q;unfold QiJ at e;split at e
 ·rename_i b dv;obtain⟨kvs,S,P⟩:=eH e;show dI i O N P;cases N;obtain⟨n,rfl,J⟩:=Qck S;obtain⟨y,z,rfl,D,C⟩:=QmO d;obtain⟨uy,uz,rfl,t,r⟩:=Qaw B;obtain⟨_,L,kx,F,T⟩:=f.dicAt E J;have M:=G4 D O;subst M L;obtain rfl:v=Value.ref kQ:=u;refine QnP (EG (DJ aA _) G) I (DGet.k (k:=i) F) t r (fC p s' j c)
  rcases QgQ (k:=i) T with z|⟨p,v',o,m,l⟩
  ·rw[z.2]at c;rw[z.1]at k;exact⟨_,H,j,c,k R H _ c9 f C⟩
  ·rw[m]at c;rw[o]at k;exact⟨_,H,j,c,k R H _ c9 f l⟩
 ·cases e
@[simp]theorem QrN:QiJ a [aJ x,v] h=@ob _ _ (λkvs=>sO ((Qha kvs wY).getD v,h)) (Qlz h a):=aW
#print "-"
#print "-Mi"
namespace L2
noncomputable def ItE(K:Nd)(a:Addr)(n:Nat):It:=
  ⟨λi H=>i<n/\∃b,jH a b/\zX,
   λi H v c=>∃T x,v=aG T/\H T=nO/\c=upd H T (.tup [aL i,x])/\∀b,jH a b->Cb,
   λi H=>n<=i/\∃b,jH a b/\zX⟩
theorem QdD{K:Nd}(l e it:Addr)(n:Nat)(c:e≠it)(C:l≠e)(B:l≠it):Turn P w K (.Tuple L kk pos) (ItE K l n) [e,it] e (λi h=>i<=n/\jl8/\h.IsListIter it l i) where
 mem:=aY
 obj:=λi h st b d=>by
  show jl9;have j:zl6:=cL d
  show BZ j
  show SI g
  ·exact⟨Z,M,λv q=>by show bT d1 q⟩
 keep:=λi h h' st k=>by
  obtain⟨m,⟨old,g⟩,h1⟩:=st;exact⟨m,⟨old,k e aF _ g⟩,h1.at λo x=>k it aF o x⟩
 item:=by
  intro X J hw hK hc i z s σ H E I Y st hg;show RZ;obtain⟨a,R,p,hz⟩:=f0 S;show jz0;have W:=Iu (prog:=X.prog) (w:=X.w) zX3 e c Tq aF;refine W.item i s _ _ zZ1 ⟨O,Q,p.isList⟩ jm0;obtain⟨t,u,hu,rfl⟩:=J;refine⟨aG T,rfl,jf2⟩;show zU3;have M:v=u:=jc1
  subst M;have ae:=W.apart i T _ f
  have af:IsTup ai T #[PR,v]:=by
   show jf8
  have ah:=zN3;refine⟨aG T,_,I.turnedN (ch:=[e,it]) (t':=tk) (xs:=[aL i,x]) jh1 Y hT ⟨by simp[DB],[PR,v],.cons (hL t) (Cp r),af⟩,rfl,⟨T,x,rfl,ah,rfl,λys hy=>by rw[I.list_inj hy S];exact hx⟩,⟨m,G.1,G.2.1⟩,bQ b d⟩;rw[QE (sL q)]
  ·exact(Y b d).1
  ·obtain⟨o,U,_⟩:∃o,bK b=sO o/\True:=by
    show js8;have j:zl6:=cL d
    show BZ j
    show zd8 g
    ·exact⟨Z,M,trivial⟩
   show js7
 done:=by
  intro X J hw hK hc i z s σ H E I Y st hg;show RZ;obtain⟨a,R,p,hz⟩:=f0 S;show jv1;have W:=Iu (prog:=X.prog) (w:=X.w) zX3 e c Tq aF;have aa:a.toArray.size=i:=zQ4
  refine W.done s _ _ (by rw[aa];exact⟨O,Q,p.isList⟩) zv2
  exact I.turnedL (ch:=[e,it]) (zE6 d) Y (xB e) (Co n) λb u n e=>by show bT n e
 self:=ja9
noncomputable def Qon(K:Nd)(f:TA):TI:=λd H R=>f d H λe c=>∃a b,e=[aG a]/\SqL K c a b/\R (ItE K a b.length) c
theorem QhK{X:Cx}{i:eE}(F:TZ)(D:T6)(G:PA X [a] v)(A:qA:=by rfl) :
  PI X (.Tuple i P j) RG (Qon X.K v):=by
 show cZ d o R;refine Call_ (Ka I F D boot_enumerate (Em (thn (rE G d o h) (aP M c r)) A rfl));show cA L J I1 x y r;show za1 t B y;show oW w x;obtain⟨z,O,l,Q⟩:=As B;have f:zB1:=let⟨_,C,_⟩:=l.isList;ND C
 refine call_enumerate_list l.isList λS m hit _ E=>Iv m ?_;refine⟨Br c,[Br c,c.heap.objs.size],_,_,J,rfl,I1.kept (t':=c.toks) E,QdD ad _ _ t.length (YaH _) (NY (Fo f)) (NY f),⟨Eg _,xW m,hit⟩,bQ b n,q⟩
 have g:c.heap.objs.size<=b:=by
  show zX5
 exact zx2 g
#print "-L2"
namespace Mi
open L2
noncomputable def Kl(ms:MA):MI:=λa h=>(ms a h).bind λp=>match p.1 with
 |[.lst b]=>sO (Jt b,nO,p.2)
 |_=>nO
section
variable{K:Nd}{R:Rn}
theorem Qds(l:Md)(r:gZ):ItOk K R (ItE K a xs.length) (Jt ws) nO where
 go:=λi w p h H x d _ e=>by
  have c:=cG e;show g6 g r;show SW;exact⟨by exact Np c (Nu g),xs,ZA (h9 d x) l,rfl⟩
 yld:=λi w p h H x G e d _ m s=>by
  obtain⟨T,C,rfl,u,rfl,t⟩:=s;show zZ2;show dI D A y B;cases y;show fY v g1 g2 r A;have n:=t xs (ZA (h9 d e) l);show bT g1 n;rw[NU];exact zV3
 stop:=λi p h H x d _ c=>by
  show g6 g r;show SW;exact⟨by exact Ng (dX g) c,xs,ZA (h9 d x) l,rfl⟩
#print "-"
section
variable{X:Cx}{tg a:Expr}{ms:MA}{p pos tpos:Pos}{elts:eE}{kk:Nat}
theorem Qay(x:TZ)(w:T6)(y:Mw)(u:qA:=by rfl):PMI X zx3 RG (Kl ms):=
 Gh (QhK x w y u) λD H C j=>by
  obtain⟨R,c,h,items,o,G,t,st,e,k⟩:=j;show cX n z A d e;refine⟨R,c,h,n,z,t,st,A,fB R1 B E m b r⟩;split at d
  ·show Ry F f;show fG f;show zE7;exact⟨ad,l,rfl,ZA b.sub (.inl (iS i)),k R1 B _ m b (Qds (.inl (iS i)) s)⟩
  ·cases d
#print "-"
#print "-Mi"
namespace Sb
open PySem SetTable
noncomputable abbrev pz(t:SetTable)(es:i6):List (Nat×zQ8):=t.place.toList.zip es.toList
structure Tab(t:SetTable)(es:i6):Prop where
 up:Up t.place
 dum:t.dummies=#[]
 len:t.place.size=es.size
 le:∀j∈t.place.toList,j<=t.mask
 own:∀q∈pz t es,∃n,sj t.mask q.2.1 n=q.1/\∀k,k<n->sj t.mask q.2.1 k∈t.place.toList
theorem Tab.fill(T:Tab t es):t.fill=es.size:=by
 unfold SetTable.fill;rw[T.dum,T.len];rfl
theorem Tab.fits(T:Tab t es)(h:es.size<=t.mask):sW:=by
 unfold SetTable.fits;rw[T.fill,T.len];simp[h]
theorem Qkc:Up xs↔xs.toList.Pairwise (·<·):=by
 rw[List.pairwise_iff_getElem];constructor
 ·intro up i j d c a;have b:j<xs.size:=by rwa[NR]at c
  have:=up i j a b;simpa[At,Array.getD,b,show A8 by exact EG a b]using this
 ·intro h i j a c;have:=h i j (by rw[NR];exact EG a c) (by rw[NR];exact c) a;simpa[At,Array.getD,c,show A8 by exact EG a c]using this
theorem QoI(m:Nat)(h:Int):∀n,R7<=m/\zf6+(sq m h n).more<=m:=by
 intro n
 induction n with
 |zero=>
  have b:=Qlw m h 0;have d:=QgY b;have a:=QcY m zf0;exact⟨b,show zf0+(runEnd m zf0-zf0)<=m by lia⟩
 |succ n c=>
  show fV b d c;show(adv m zh8).j<=m/\(adv m zh8).j+(adv m zh8).more<=m;unfold adv;split
  ·rename_i e;exact⟨by show zf6+1<=m;lia,by show zf6+1+((sq m h n).more-1)<=m;lia⟩
  ·have a:H9<=m:=zI1;have g:=QgY a;have f:=QcY m H9;exact⟨a,show H9+(runEnd m H9-H9)<=m by lia⟩
noncomputable abbrev Ow(o:HP)(j:Nat):Ce:=o.getD j nO
structure Lay(m:Nat)(hs:eX)(o:HP):Prop where
 size:o.size=m+1
 own:∀j k,zg7->∃h,hs[k]?=sO h/\∃n,R7=j/\je1
 all:∀k,k<hs.length->∃j,zg7
 one:∀j j' k,zg7->Ow o j'=sO k->j=j'
theorem Qp7(h:zg7):j<o.size:=by
 rcases D6 j o.size with z|z
 ·exact z
 ·simp[Ow,Array.getD,N7.mpr z]at h
theorem QlX(L:Lay m a o)(d:a.length<=m):∃x,x<=m/\Ow o x=nO:=by
 obtain⟨x,b,c⟩:=QoV (m:=m) (l:=(List.range a.length).map λk=>if h:k<a.length then Classical.choose (L.all k h)else 0) (by simp;exact d);show rW x b;cases e:Ow o x with
 |none=>rfl
 |some k=>
  exfalso;obtain⟨h,f,_⟩:=L.own x k e;have lt:k<a.length:=cG f;refine c (NI.mpr ⟨k,Ek.mpr lt,?_⟩);rw[dif_pos lt];exact L.one _ _ k (Classical.choose_spec (L.all k lt)) e
theorem Qmn{m:Nat}(h:Int){o:HP}(A:o.size=m+1){K:Nat}(v:Ow o (bk m h K).1=nO):∀(f k:Nat),k<=K->K<k+f->(∀n,n<kR->(Ow o P3).isSome=true) ->
  ∃n,layClean.free m o f eN BU=sO P3/\Ow o P3=nO/\je1:=by
 intro f
 induction f with
 |zero=>
  intro k l w _;omega
 | succ f s=>
  intro k l w j;unfold layClean.free
  have g:∀c,c<=runEnd m eN-eN->eN+c<o.size:=λc a=>by
   have:=QgY (Qlw m h k);have:=QcY m eN;omega
  have get:∀c,c<=runEnd m eN-eN->o.getD (eN+c) (sO 0)=Ow o (sj m h (kR+c)):=λc a=>by
   rw[Qlv m h k c a];simp[Ow,Array.getD,g c a]
  have t:runEnd m eN+1-eN=runEnd m eN-eN+1:=by
   have:=QcY m eN;lia
  rw[t];split
  ·rename_i c a;rw[List.find?_range_eq_some]at a;show fH r y x a;rw[Ek]at y;rw[get c aQ]at r;refine⟨kR+c,by rw[Qlv m h k c aQ],cL r,bQ i u⟩
   show jm1 i
   ·have p:=x (i-kR) (FS z u);rw[get _ aQ,show kR+(i-kR)=i by exact IT z]at p;revert p;cases Ow o (sj m h i)<;>simp
  ·rename_i a
   have b:∀n,n<ps m h (k+1)->(Ow o P3).isSome=true:=by
    intro n B
    show jm1 n
    ·have e:ps m h (k+1)=kR+(runEnd m eN-eN)+1:=rfl;rw[List.find?_eq_none]at a;have:=a (n-kR) (Ek.mpr aQ);rw[get _ aQ,show kR+(n-kR)=n by exact IT z]at this;revert this;cases Ow o P3<;>simp
   have d:k<K:=by
    rcases D6 k K with z|z
    ·exact z
    ·have:k=K:=by exact Fg l z
     subst this;have:=b (kR+0) (by show _<kR+_+1;lia);rw[Qlv m h k 0 uQ,Yag,v]at this;cases this
   exact s (k+1) d aQ b
theorem Gb(a:j<o.size):Ow (o.setIfInBounds j (sO k)) i=if i=j then sO k else Ow o i:=by
 by_cases c:i=j
 ·subst c;simp[Ow,Array.getD,a]
 ·rw[cR c];unfold Ow;rw[FA,FA,Array.getElem?_setIfInBounds_ne (EB c)]
theorem QmK(F:AD)(L:Lay m p o)(H:p.length<=m)(h:Int) :
  ∃j,layClean.free m o Pm M5 (bits h)=sO j/\Lay m (p++[h]) (o.setIfInBounds j (sO p.length)):=by
 obtain⟨x,G,t⟩:=QlX L H;obtain⟨K,I,e⟩:=Qk1 F h G;obtain⟨n,C,B,A⟩:=Qmn h L.size (K:=K) (tZ e t) Pm 0 uQ (by unfold turns;lia) (λn t=>Mx t)
 have f:R7<o.size:=by
  have:=(QoI m h n).1;rw[L.size];exact Nk this uP
 refine⟨R7,C,?_,?_,?_,?_⟩
 ·rw[Array.size_setIfInBounds];exact L.size
 ·intro j k d;rw[Gb f]at d;split at d
  ·show eF z d;refine⟨h,aY,n,z.symm,bQ i u⟩;rw[Gb f];split
   ·rfl
   ·exact A i u
  ·obtain⟨v,s,D,y,w⟩:=L.own j k d;refine⟨v,?_,D,y,bQ i u⟩
   ·rw[Ew (cG s)];exact s
   ·rw[Gb f];split
    ·rfl
    ·exact w i u
 ·intro k d;rw[Nw,NX]at d
  rcases D6 k p.length with z|z
  ·obtain⟨j,c⟩:=L.all k z;show Aq j;rw[Gb f,if_neg]
   ·exact c
   ·rintro rfl
    show bT B c
  ·refine⟨R7,?_⟩;rw[Gb f,nC];congr 1;lia
 ·have l:∀j,Ow o j≠sO p.length:=λj z=>by
   obtain⟨v,s,_⟩:=L.own j _ z;have:=cG s;exact EU (Nv this) this
  intro j E k r g;rw[Gb f]at r g;split at r
  ·cases r;split at g
   ·rename_i a b;rw[a,b]
   ·exact absurd g (l _)
  ·split at g
   ·cases g;exact absurd r (l _)
   ·exact L.one j E k r g
theorem Qhx(F:AD):∀(rest a:eX) (o:HP),Lay m a o->SS<=m ->
  ∃o',(rest.foldl (init:=sO (o,a.length)) λb h=>do
   let(owner,k) <-b
   let j <-layClean.free m owner Pm M5 (bits h)
   pure (owner.setIfInBounds j (sO k),k+1))=sO (o',SS)/\Lay m (a++rest) o':=by
 intro rest
 induction rest with
 |nil=>
  intro a o L _;exact⟨o,aY,cL L⟩
 | cons h rest l=>
  intro a o L c;rw[N6]at c;obtain⟨j,i,g⟩:=QmK F L (Ng dZ c) h;obtain⟨o',f,d⟩:=l (a++[h]) _ g (by rw[Nw,NX];lia);refine⟨o',?_,cL d⟩;rw[Fi]
  have e:((sO (o,a.length):Option (HP×Nat))>>=λp=>layClean.free m p.1 Pm M5 (bits h)>>=λj=>pure (p.1.setIfInBounds j (sO p.2),p.2+1))=sO (jk5,(a++[h]).length):=by
   show(layClean.free m o Pm M5 (bits h)>>=λj=>pure (jk5,a.length+1))=_;rw[i,Nw];rfl
  refine(congrArg (λz=>List.foldl _ z rest) e).trans (f.trans ?_);simp;exact DR _ _ _
theorem Qls(m:Nat):Lay m [] jp3:=by
 have e:∀j,Ow jp3 j=nO:=λj=>by
  unfold Ow;rw[FA,Array.getElem?_replicate];split<;>rfl
 refine⟨Array.size_replicate,aP j k h,λk h=>Mx h,fC j a k h⟩
 ·show bT e h
 ·show bT e h
theorem Qcg(F:AD)(a:Array Int)(b:a.size<=m):∃o,layClean m a=sO o/\Lay m a.toList o:=by
 obtain⟨o,d,c⟩:=Qhx F a.toList [] _ (Qls m) (cD b);refine⟨o,?_,cL c⟩;unfold layClean;rw[<-Array.foldl_toList];exact congrArg (λz=>Option.map (·.1) z) d
theorem Qh0(f:d->kA e):∀(l:gN d),((l.filterMap λj=>(f j).map (j,·)).map (·.1)).Sublist l:=by
 intro l
 induction l with
 |nil=>
  exact .slnil
 |cons a l c=>
  rw[D8];cases f a with
  |none=>exact(c).cons a
  |some b=>exact(c).cons_cons a
theorem QiX{f:c->kA m}{l:gN c}:p∈(l.filterMap λj=>(f j).map (j,·))↔p.1∈l/\f p.1=Ax:=by
 rw[FV];constructor
 ·rintro⟨a,g,e⟩
  show l8 b d e;show lL g d
 ·rintro⟨i,h⟩
  exact⟨p.1,i,u8 h⟩
theorem QmA(f:b->e)(g:b->d):∀l:gN b,(l.map f).zip (l.map g)=l.map λx=>(f x,g x):=by
 intro l
 induction l with
 |nil=>
  exact rfl
 |cons a l c=>
  simp[c]
theorem Qn6:∀(l:gN e),(∀a∈l,f a=sO (g a))->l.filterMap f=l.map g:=by
 intro l
 induction l with
 |nil=>
  intro _;exact rfl
 |cons a l c=>
  intro h;rw[D8,h a NG,NA,c (iV b d h)]
theorem Qg6[BEq d][LawfulBEq d]:∀(l k:gN d),l.Nodup->k.Nodup->(∀x,x∈l↔x∈k)->l.Perm k:=by
 intro l
 induction l with
 |nil=>
  intro k _ _ h;have:k=[]:=List.eq_nil_iff_forall_not_mem.mpr λx b=>nomatch (h x).mpr b
  rw[this]
 | cons a l f=>
  intro k c e h;have g:=(h a).mp NG;rw[ES]at c;refine(List.Perm.cons a (f (k.erase a) c.2 (e.erase a) (fX x))).trans (OL g).symm;rw[e.mem_erase_iff];constructor
  ·exact λb=>⟨λz=>c.1 (BP z b),(h x).mp (Nt _ b)⟩
  ·rintro⟨z,b⟩
   rcases NC.mp ((h x).mpr b)with y|y
   ·exact absurd y z
   ·exact y
theorem laid_ok(F:AD)(es:i6)(N:es.size<=m)(C B:Nat)(led pl:Bool) :
  ∃t' t,laid m C B led pl (es.map (·.1))=cP t' t/\t'.mask=m/\t'.led=led/\t'.plain=pl/\Tab t' (t.filterMap (es[·]?))/\(t.filterMap (es[·]?)).toList.Perm es.toList:=by
 obtain⟨o,J,L⟩:=Qcg F (es.map (·.1)) (cD N);have d:(es.map (·.1)).toList.length=es.size:=aY
 let live:=(List.range (m+1)).filterMap λj=>(o.getD j nO).map (j,·)
 let g:Nat->Int×Value:=λk=>es.getD k (0,.none)
 have e:∀p,p∈live↔p.1<m+1/\Ow o p.1=Ax:=λp=>by
  show p∈(List.range (m+1)).filterMap (λj=>(o.getD j nO).map (j,·))↔_;rw[QiX (f:=λj=>o.getD j nO),Ek]
 have lk:∀p∈live,p.2<es.size:=λp a=>by
  obtain⟨h,q,_⟩:=jp4;have:=cG q;rwa[d]at this
 have lt:(live.map (·.1)).Pairwise (·<·):=List.Pairwise.sublist (Qh0 (λj=>o.getD j nO) (List.range (m+1))) Ol;have x:∀k,k<es.size->es[k]?=sO (g k):=λk b=>by simp[g,Array.getD,b]
 have y:(((live.map (·.2)).toArray).filterMap (es[·]?)).toList=live.map λp=>g p.2:=by
  rw[Array.toList_filterMap,Dq,Qn6 (f:=λk=>es[k]?) (g:=g),El]
  ·rfl
  ·intro k b;show p8 p a b;exact x _ (lk p a)
 refine⟨{ mask:=m,place:=(live.map (·.1)).toArray,dummies:=#[],finger:=C,led:=led,moves:=B,plain:=pl },(live.map (·.2)).toArray,?_,rfl,rfl,rfl,⟨?_,rfl,?_,?_,?_⟩,?_⟩
 ·unfold laid;rw[J];rfl
 ·rw[Qkc];show((live.map (·.1)).toArray).toList.Pairwise _;rw[Dq];exact lt
 ·have:=HD y;rw[NR,Nz]at this;rw[this];simp
 ·intro j s;have w:j∈live.map (·.1):=cL s
  show p8 p a w;have:=((e p).mp a).1;show p.1<=m;lia
 ·intro q r;unfold pz at r;rw[y]at r;have l:q∈(live.map (·.1)).zip (live.map λp=>g p.2):=cL r
  rw[QmA]at l;show p8 p a l;obtain⟨h,A,n,G,E⟩:=jp4
  have D:(g p.2).1=h:=by
   have O:=x p.2 (lk p a);rw[EN,Array.getElem?_map,O]at A;exact Eo A
  refine⟨n,?_,bQ k b⟩
  ·show sj m (g p.2).1 n=p.1;rw[D];exact G
  ·show sj m (g p.2).1 k∈((live.map (·.1)).toArray).toList;rw[D,Dq];have:=E k b;obtain⟨M,v⟩:=LG.mp this;exact NI.mpr ⟨(sj m h k,M),(e _).mpr ⟨by have:=(QoI m h k).1;show sj m h k<m+1;exact Nk this uP,v⟩,rfl⟩
 ·rw[y]
  have I:(live.map (·.2)).Perm zy5:=by
   refine Qg6 _ _ ?_ YaG (fX k)
   ·unfold List.Nodup;rw[Lw];rw[Lw]at lt;refine LI ?_ lt;intro p q a r u z;have:=L.one p.1 q.1 p.2 ((e p).mp a).2 (by rw[z];exact((e q).mp r).2);exact EU yY u
   ·rw[Ek];constructor
    ·intro b;show p8 p a b;exact lk p a
    ·intro b;obtain⟨j,s⟩:=L.all k (tZ d b);have:=Qp7 s;rw[L.size]at this;exact NI.mpr ⟨(j,k),(e _).mpr ⟨this,s⟩,rfl⟩
  have H:(live.map λp=>g p.2).Perm ((List.range es.size).map g):=by
   have:=I.map g;rwa[El]at this
  refine H.trans ?_
  have:(List.range es.size).map g=es.toList:=by
   apply DU;intro i;rw[Nx]
   by_cases c:i<es.size
   ·rw[De c];exact(x i c).symm.trans (EN ..).symm
   ·rw[Er (cD c),Er (cD c)];rfl
  rw[this]
#print "-Sb"
namespace Mi
open L2
theorem Wu:fillsNumberSlot tH "mul"=oM:=PySem.fillsNumberSlot_seq (id:="tuple.__mul__") (r:=sO (.builtin "tuple.__rmul__")) IC.lookup bB LV.lookup bB
theorem Qbh:seqRepeat? tH=pure (sO (.builtin "tuple.__mul__")):=by
 unfold seqRepeat?;rw[YaI (T:="tuple") (name:="__mul__") (id:="tuple.__mul__") IC.lookup bB,YaI (T:="tuple") (name:="__rmul__") (id:="tuple.__rmul__") LV.lookup bB];rfl
theorem Qcz(items:dC)(k:Nat):List.foldl zN5 #[] js9=(List.replicate k items.toList).flatten.toArray:=by
 have:∀(k:Nat) (a:dC),List.foldl zN5 a js9=(a.toList++(List.replicate k items.toList).flatten).toArray:=by
  intro k
  induction k with
  |zero=>intro a;simp
  |succ k d=>intro a;rw[Eu,Fi,d,Eu,DH];simp
 simpa using this k #[]
theorem Qan{a:Type}(l:g8):∀k:Nat,(List.replicate k l).flatten.length=l.length*k:=by
 intro k
 induction k with
 |zero=>
  exact rfl
 |succ k b=>
  rw[Eu,DH,Nw,b,Nat.mul_succ];exact Nat.add_comm _ _
theorem QdV(a:Int)(t:Tok)(l:Addr)(items:dC)(n:Nat)(dd:dW)(c:oZ) :
  Meets (Builtin.«int.__rmul__» ⟨[.int a t,aG l],[]⟩) (λ_ R s=>bK l=sO { cls:=jO,dict:=dd,data:=.seq items n,slots:=c }/\R (.ok (.ret Value.notImplemented)) s):=
 .of_wp λb w A R s h=>by show oC f e;show AA i h;wp_walk;exact tT
theorem QfZ(l:Addr)(items:dC)(n:Nat)(dd:dW)(f:oZ)(x:Int)(u:Tok)(h0:items.isEmpty=false)(h1:2<=x)(m:x<=1000)(j:items.size<=1000) :
  Meets (Builtin.«tuple.__mul__» ⟨[aG l,.int x u],[]⟩) (λ_ R s=>bK l=sO { cls:=jO,dict:=dd,data:=.seq items n,slots:=f } /\
   R (.ok (.ret i4)) { s with heap:=s.heap.push { cls:=jO,data:=.seq ((List.replicate x.toNat items).foldl (·++·) #[]) } }):=
 .of_wp λa w A R s h=>by
  show oC y v;show AA i h;have f1:=AutoSeq1.idx_int
  have t:(decide (x < -(2^63:Int)) ||decide (x >= 2^63))=false:=by
   rw[decide_eq_false aQ,decide_eq_false aQ];rfl
  have r:(items.isEmpty ||x==1)=false:=by
   rw[h0];have:(x==1)=false:=beq_eq_false_iff_ne.mpr aQ;show mD
  have p:(decide (x<=0) ||items.isEmpty)=false:=by
   rw[h0,decide_eq_false aQ];rfl
  have z:l7*x<=1000000:=by
   have:=Int.mul_le_mul (show l7<=1000 by lia) m aQ aA;exact F8 this aA
  wp_walk
  rw[if_neg (jA t)];refine Na (wpAny_tupleItemsOf i rfl ?_);rw[if_neg (jA r),if_neg (jA p)];rw[if_neg aQ]
  have o:¬Builtin.Tuple.tupleTooMany (l7*x)=true:=by
   simp[Builtin.Tuple.tupleTooMany];have:Bf:=a'
   lia
  rw[cR o];unfold Builtin.Tuple.tupleExact;refine Na (Eh (Nj tT) ?_);show(List.foldl zN5 #[] (List.replicate x.toNat items)).size<=sizeLine;rw[Qcz,Nr,Qan];have:items.toList.length*x.toNat<=1000*1000:=Ij (by rw[NR];exact j) aQ;have e:Bf:=a'
  lia
noncomputable def QbZ(a b:W)(h:MH):bJ:=match a,b with
 |mL c,aL n=>if 2<=n/\n<=1000/\0<c.length/\c.length<=1000 then sO (.tup (List.replicate n.toNat c).flatten,h)else nO
 |_,_=>nO
theorem QkE{K:Nd}{R:Rn}{ws:aH}{xs:bD}(r:gZ):∀k:Nat,Rws K R (List.replicate k ws).flatten jn7:=by
 intro k
 induction k with
 |zero=>
  unfold Rws;rfl
 |succ k a=>
  rw[Eu,Eu,DH,DH];exact Rws.append r (a)
theorem QhN{xs:bD}{us:aZ}(r:lC):∀k:Nat,Vals jn7 (List.replicate k us).flatten:=by
 intro k
 induction k with
 |zero=>
  exact .nil
 |succ k a=>
  rw[Eu,Eu,DH,DH];exact Vals.append r (a)
theorem Qhr{X:Cx}:OpR X HZ (F2 X.K QbZ):=by
 intro E s σ H x y v u Q I P O q;obtain⟨R,h,a,b,w,h',C,Y,S,e,k⟩:=q;unfold QbZ at e;split at e
 ·split at e
  ·rename_i ws n f;cases e;show p4 L Z D C Y;have eb:=S.int_eq;subst eb;cases P;show aO t O;obtain⟨c,B,⟨⟨cls,J,data,A⟩,d,G,m,hd⟩,hz⟩:=eQ Z;show TQ G;show j6 l D j B;have r:c≠[]:=λz=>by rw[z,IJ]at j;exact EU (Ng (Nu l) (Nu j)) f.2.2.1
   have p:c.toArray.size<=1000:=by rw[Nr];exact Ng (Ng (dX j) (dX l)) f.2.2.2
   refine wpAny_binaryOp_repeat_ref (T:="tuple") (U:="int") aA (gH d) (λN=>typeIs_int N n t) Wu PySem.F.fills_int_mul Ov Qbh PySem.F.slot_int_index.lookup
    (DN Ov (typeIs_int s n t) PySem.F.entry_int_rmul (PySem.F.args_int_rmul_2 _ _) (QdV n t ad c.toArray m J A)
     ⟨d,rfl,gH d,DN IC (gH d) PySem.F.entry_tuple_mul (PySem.F.args_tuple_mul_2 _ _)
      (QfZ ad c.toArray m J A n t (kS r) f.1 f.2.1 p) (xU d)⟩)
   rw[Qcz,Dq];have hp:=I.hok.fresh (Ny s.heap.objs.size);obtain⟨R3,M,i,g⟩:=C.tup hp (QkE D n.toNat);refine⟨kE s,_,I.laid (t':=s.toks) (λb o e=>k8) cO (show ObjOk X.prog X.w _ _ _ (.tup _)from⟨?_,_,QhN B n.toNat,_,fM,rfl,0,rfl⟩),rfl,k R3 _ _ M i g⟩;rw[Qan];have:L.length*n.toNat<=1000*1000:=Ij (Ng (dX l) f.2.2.2) aQ;have e:Bf:=a'
   lia
  ·cases e
 ·cases e
#print "-Mi"
namespace St
open SetTable
theorem QoK:Sb.Full 15:=by unfold Sb.Full;show rQ
theorem QoN:Sb.Full 63:=by unfold Sb.Full;show rQ
theorem Qcq(h:n<=62):∃m,sizeAbove n=m+1/\Sb.Full m/\n<=m/\m<=63:=by
 have key:∀k:Fin 63,(X'=8/\k.val<=7)\/(X'=16/\k.val<=15)\/(X'=32/\k.val<=31)\/(X'=64/\k.val<=63):=a'
 rcases key ⟨n,Nat.lt_succ_of_le h⟩with z|z|z|z
 ·exact⟨7,z.1,Sb.full7,z.2,a'⟩
 ·exact⟨15,z.1,QoK,z.2,a'⟩
 ·exact⟨31,z.1,Sb.full31,z.2,a'⟩
 ·exact⟨63,z.1,QoN,z.2,a'⟩
section
variable{prog:Program}{w:World}{A:Around}{E:bI}{s:Shared}
theorem QeK{a:Addr}{ks:aD}{es es':i6}{o:Obj}{x:Nat}{t t':SetTable}{i:i6}{Q:Unit->cS}(j:bK a=sO o)(m:o.ExactSet)(hd:o.data=.set i x t)
  (f:ElemsOf Bh es.toList) (l:es.size<scanBound) (pm:es'.toList.Perm es.toList) (r:t'.fits es'.size=true) (c:zl7\/t'.plain=false) (d:ks.Nodup) (n:es.size=ks.length) (b:∀k,k∈ks↔∃e∈es.toList,y9)
  (h:∀h',lQ a->SetL prog w h' a ks t'.led->mQ):wpAny aX A (storeSet a es' t') Q E s:=by
 have sz:es'.size=es.size:=by rw[<-NR,pm.length_eq,NR]
 obtain⟨g1,g2,⟨v,g3⟩,u⟩:=stored (prog:=prog) (w:=w) (es':=es') (t':=t') (ks:=ks) j m hd (f.perm pm) (zc0 l) r (zc0 c) d (zc0 n) λk=>by
  rw[b k];exact zU4
 exact Iq j hd (h _ uH u) (Lu (zc0 l))
theorem QnU{a:Addr}{ks:aD}{led:Bool}{c:Nat}{Q:Unit->cS}(N:yC s a)(hw:c<=62)(x:ks.length<=c)
  (h:∀h',lQ a->yP h' a->mQ):wpAny aX A (setRelay a c) Q E s:=by
 obtain⟨o,b,P,t,u,J,hd,n,M,L,f,i,j,l,e⟩:=N;obtain⟨m,v,F,y,O⟩:=Qcq hw;unfold setRelay;show ST u L;have big:¬sizeAbove c>sizeLine:=by rw[v,DB];exact N7.mpr (Nk O aA)
 rw[if_neg big];obtain⟨p,g,I,H,G,D,C,r⟩:=Sb.laid_ok F b (Ng (Ng (Nu l) x) y) t.finger (t.movedTo m) t.led t.plain
 have rel:t.relaid (b.map (·.1)) c=cP p g:=by
  unfold relaid;rw[v];exact I
 rw[rel];show pW;have d:(g.filterMap (b[·]?)).size=b.size:=zx4 r
 show wpAny _ _ (do
  if(g.filterMap (b[·]?)).size != b.size then zo4
  pure (g.filterMap (b[·]?),p)) _ _ _
 rw[if_neg (jA d)];refine Na (Nj f6);dsimp only;refine QeK (ks:=ks) u J hd n M r (C.fits (by rw[d,H];exact Ng (Ng (Nu l) x) y)) ?_ j l e λh' B z=>h h' B (by rw[<-f,<-G];exact z)
 show iP i z
 ·exact dU z
 ·exact .inr (eI D z)
#print "-"
section
variable{prog:Program}{w:World}{A:Around}{E:bI}{s:Shared}
def Emp(h:Heap)(a:Addr)(led:Bool)(n:Nat):Prop:=∃o b t,aI h a=sO o/\o.ExactSet/\o.data=.set #[] b t/\t.fill=0/\t.fits 0=true/\t.led=led/\Sb.Full t.mask/\n<=t.mask
theorem Qqs{r:Addr}{led:Bool}{n:Nat}{Q:Unit->cS}(d:bK r=sO (Q9 led))(x:n<=31)
  (h:∀h',lQ r->Emp h' r led n->mQ):wpAny aX A (setRoomFor r n) Q E s:=by
 unfold setRoomFor;refine zX0
 have u:(fresh 0 0 led).roomFor n=if n*5 >= 21 then sO (n*2)else nO:=by
  show(if(0+n)*5 >= 7*3 then sO ((0+n)*2)else nO)=_;rw[NU]
 dsimp only;rw[u]
 by_cases i:n*5 >= 21
 ·rw[bW i];dsimp only;obtain⟨m,f,F,y,t⟩:=Qcq (n:=n*2) aQ;unfold setRelay;refine zX0;dsimp only;have big:¬sizeAbove (n*2)>sizeLine:=by rw[f,DB];exact N7.mpr (Nk t aA)
  rw[if_neg big];obtain⟨a,b,p,o,l,v,e,j⟩:=Sb.laid_ok F #[] uQ (fresh 0 0 led).finger ((fresh 0 0 led).movedTo m) (fresh 0 0 led).led (fresh 0 0 led).plain
  have rel:(fresh 0 0 led).relaid ((#[]:i6).map (·.1)) (n*2)=cP a b:=by
   unfold relaid;rw[f];exact p
  rw[rel];show pW;have c:(b.filterMap ((#[]:i6)[·]?)).size=0:=by rw[<-NR,j.length_eq];rfl
  have g:b.filterMap ((#[]:i6)[·]?)=#[]:=IL c
  show wpAny _ _ (do
   if(b.filterMap ((#[]:i6)[·]?)).size != (#[]:i6).size then zo4
   pure (b.filterMap ((#[]:i6)[·]?),a)) _ _ _
  rw[if_neg (jA c)];refine Na (Nj f6);dsimp only;rw[g];rw[g]at e;refine Iq d rfl (h _ uH ?_) aA;have g1:(s.heap.update r (Obj.putSet #[] a)).get? r=sO (Obj.putSet #[] a (Q9 led)):=N2 _ d rfl;exact⟨_,_,a,g1,zE8,rfl,e.fill,e.fits uQ,l,qY o F,aU⟩
 ·rw[cR i];exact Nj (h s.heap zb9 ⟨_,_,_,d,zE8,rfl,rfl,rfl,rfl,Sb.full7,by show n<=7;lia⟩)
theorem QjJ{r o:Addr}{ks:aD}{led:Bool}{C:Sem Unit}{Q:Unit->cS}(S:bK r=sO (Q9 led))(hS:yC s o)(J:r≠o)(hk:ks.length<=31)
  (h:∀h',lQ r->yP h' r->(ks=[]->h'=s.heap)->mQ):wpAny aX A (setMerge r o C) Q E s:=by
 obtain⟨ob,a,ep,t,ho,hx,hd,B,U,T,e,I,u,v,d⟩:=hS;unfold setMerge;rw[if_neg (cD J)];refine Na (N1 ho hd T ?_);dsimp only
 by_cases D:a.isEmpty=true
 ·rw[bW D];have F:a.size=0:=zu6 D
  have L:ks=[]:=NT.mp (Fg (Ng (dX v) (Nu F)) uQ);subst L;exact Nj (h s.heap zb9 (Ga S) d7)
 ·rw [cR D];have F:a.size≠0:=zu6 D
  have f:ks≠[]:=λz=>F (by rw[v,z];rfl);refine Na (Qqs S (n:=a.size) (Ng (Nu v) hk) λO l em=>?_);obtain⟨o1,aa,j,g,m,i,N,M,y,F1,x⟩:=em;have c:wA:=by show iP I z;exact absurd z F;exact z
  refine Na (N1 (s:={ s with heap:=O }) g i M ?_);dsimp only;unfold road;rw[if_neg (by rw[N];decide)];split
  ·rename_i b;split at b
   ·exact QeK (s:={ s with heap:=O }) (ks:=ks) (es:=a) g m i B U (Ox _) T (.inr (by show(j.plain&&t.plain)=false;rw[c,DL])) u v d λh' G z=>h h' (eI l G) (by
     have:(j.led&&t.led)=led:=by rw[y,e,Bool.and_self]
     rw[<-this];exact z) λz=>absurd z f
   ·cases b
  ·rename_i b;obtain⟨P,H,l1,l2,Z,Y,X,R⟩:=Sb.laid_ok F1 a x j.finger j.moves (j.led&&t.led) (j.plain&&t.plain);rw[l1];have p:(H.filterMap (a[·]?)).size=a.size:=zx4 R
   show pW
   show wpAny _ _ (do
    if(H.filterMap (a[·]?)).size != a.size then zo4
    pure (H.filterMap (a[·]?),P)) _ _ _
   rw[if_neg (jA p)];refine Na (Nj f6);dsimp only
   exact QeK (s:={ s with heap:=O }) (ks:=ks) (es:=a) g m i B U R (X.fits (by rw[p,l2];exact x)) (.inr (by rw[Y,c,DL])) u v d λh' G z=>h h' (eI l G) (by
     have:P.led=led:=by rw[Z,y,e,Bool.and_self]
     rw[<-this];exact z) λz=>absurd z f
  ·rename_i b;split at b<;>cases b
#print "-"
section
variable{prog:Program}{w:World}{A:Around}{E:bI}{s:Shared}
theorem QqA{o:Addr}{ob:Obj}{es:i6}{g:Nat}{t:SetTable}{Q:i6->cS}(c:bK o=sO ob)(hd:ob.data=wW g)(e:sW)(a:zl7\/wA)
  (h:zX1):wpAny aX A (setWalk o) Q E s:=by
 unfold setWalk;show ST c e;unfold setsByText;refine Na (Na (Da f6));dsimp only;split
 ·exact Na (Da (Nj (h _ s.drawn (Qa0 _ _))))
 ·show wpAny _ _ (if zs8=true then(do return(<-drawOrder es.size es.toList).toArray)else do
   (if(!t.led&&decide (es.size>1))=true then jn6 else CW)
   return es) _ _ _
  split
  ·exact Na (WV _ _ _ _ (NR).symm λi d p=>Nj (h _ d (cD p)))
  ·rename_i b
   have f:¬zl4:=λz=>b (by
    show iP a q
    ·lia
    ·rw[q];show lJ z)
   rw[if_neg (by simp;intro _;exact N7.mp f)];exact Na (Nj (Nj (h _ s.drawn (Ox _))))
theorem QoA{es:List zQ8}(a:ElemsOf Bh es):∀e∈es,∃x c,e.2=PU:=λe d=>by
 obtain⟨⟨k,b,_⟩,_⟩:=a e d;obtain⟨c,f⟩:=D7 b;exact⟨k,c,f⟩
#print "-"
section
variable{prog:Program}{w:World}{A:Around}{E:bI}{s:Shared}
theorem QdS{Q:Bool->cS}{d:cV}(z:∀a∈d,∃ks led,yC s a)(h:Q true s):wpAny aX A (setsQuiet d) Q E s:=by
 unfold setsQuiet;refine Na (wpAny_forIn_list _ (λl b j=>(∀a∈l,∃ks led,yC j a)/\b.1=nO/\j=s) _ ?_ ?_ d _ (zl2 z))
 ·rintro a rest b j ⟨r,i,rfl⟩
  obtain⟨ks,led,o,H,J,t,B,I,hd,p,F,C,_⟩:=r a NG;unfold setEntries;refine Na (Na (N1 B hd C f6));dsimp only;refine Na (wpAny_forIn_array' _ (λl b f=>(∀e∈l,∃x c,e.2=PU)/\b.1=nO/\f=j) _ ?_ ?_ H _ ⟨QoA p,rfl,rfl⟩)
  ·rintro e n b f ⟨m,i,rfl⟩
   obtain⟨x,c,y⟩:=m e NG;show fV g v e;dsimp only at y;subst y;exact Nj ⟨iV e D m,rfl,rfl⟩
  ·show je2 f;exact Nj ⟨iV a G r,rfl,rfl⟩
 ·show je2 j;exact Nj h
theorem Qk2{o r:Addr}{ob:Obj}{es:i6}{N:Nat}{t:SetTable}{c g:aD}{led:Bool}{Q:i6->cS}(y:bK o=sO ob)(hd:ob.data=wW N)(C:sW)(i:zl7\/wA)(f:t.led=led)
  (J:T1 o g) (x:T1 r c) (m:c≠[])
  (h:zX1):wpAny aX A (setWalkUnseen o [r] (sO r)) Q E s:=by
 unfold setWalkUnseen;show ST y C;unfold setsByText;refine Na (Na (Da f6));dsimp only;split
 ·exact QqA y hd C i h
 ·refine Na (QdS (mK a v) ?_)
  ·show qI v
   ·exact⟨_,_,J⟩
   ·rw[j2 v];exact⟨_,_,x⟩
  ·rw[if_neg aA];refine Na (Ii ?_);obtain⟨O,L,M,F,l,G,u,D,I,p,b,e,B,H,n⟩:=x
   have j:F.plain=false:=by
    show iP e z
    ·exact absurd (NT.mp bL) m
    ·exact z
   refine Na (N1 l u p ?_);dsimp only;rw[if_neg (by rw[b,f,j];cases led<;>simp)];exact Nj (h es s.drawn (Ox _))
#print "-"
section
variable{prog:Program}{w:World}{A:Around}{E:bI}{s:Shared}
theorem Qre{r:Addr}{ks:aD}{led:Bool}{n:Nat}{Q:Unit->cS}(e:yC s r)(y:ks.length+n<=31)
  (h:∀h',lQ r->yP h' r->mQ):wpAny aX A (setRoomFor r n) Q E s:=by
 have b:=e;obtain⟨o,u,B,t,l,x,hd,p,z,d,i,j,m,c,g⟩:=e;unfold setRoomFor;refine Na (N1 l hd d ?_)
 have f:t.place.size=u.size:=by
  unfold SetTable.fits at d;simp at d;exact d.1
 dsimp only;unfold roomFor;split
 ·rename_i v a;split at a
  ·cases a;exact QnU b (by rw[f,c];lia) (by rw[f,c];lia) h
  ·cases a
 ·exact Nj (h s.heap zb9 b)
theorem Qol{r o:Addr}{f a:aD}{led:Bool}{id:String}{Q:Unit->cS}(hr:T1 r f)(hS:T1 o a)(i:r≠o)(h1:f≠[])(hk:f.length+a.length<=31)
  (h:∀h' d us,lQ r->jB2->(zD1 f a)->ji8):wpAny aX A (Builtin.Frozenset.merge id r o) Q E s:=by
 have ao:=hS;obtain⟨ob,es,ep,t,S,hx,hd,al,hb,N,M,aa,au,hn,L⟩:=hS;unfold Builtin.Frozenset.merge setEpoch;refine Na (Na (N1 S hd N f6));dsimp only;unfold setMerge;rw[if_neg (cD i)];show ST S N
 by_cases X:es.isEmpty=true
 ·rw[bW X];have h0:zl7:=zu6 X
  have ai:a=[]:=NT.mp (Fg (Ng zR2 (Nu h0)) uQ);subst ai;exact Nj (h s.heap s.drawn f zb9 hr λk=>aY)
 ·rw [cR X];refine Na (Qre hr (n:=es.size) (Ng (Nat.add_le_add_left (Nu hn) _) hk) (aP j v H));have ab:aI j o=sO ob:=by rw[v.2 o i.symm];exact S
  have an:SetL prog w j o a led:=ao.at λo' e=>by rw[v.2 o i.symm];exact e
  have u:=H;obtain⟨o1,ax,ay,t1,J,as,am,ar,aw,D,af,ap,aq,av,ae⟩:=H;refine Na (N1 (s:={ s with heap:=j }) J am D ?_);dsimp only
  have C:t1.fill≠0:=by
   unfold SetTable.fits at D;simp at D;have:f.length≠0:=λz=>h1 (NT.mp z);unfold SetTable.fill;lia
  have y:t1.road t=.oneByOne:=by
   unfold road;rw[if_pos (cD C)]
  rw[y];dsimp only;refine Na (Qk2 (s:={ s with heap:=j }) ab hd N aa M an u h1 λR d pm=>?_)
  have hex:∀e∈R.toList,zZ8:=λe g=>by
   obtain⟨⟨k,ak,aj⟩,_⟩:=al e (pm.mem_iff.mp g);obtain⟨c,hc⟩:=D7 ak;exact⟨k,c,by rw[<-aj,<-hc]⟩
  have P:∀k,k∈a↔∃e∈R.toList,y9:=λk=>by
   rw[L k];exact zU4
  have Y:R.toList.length=a.length:=by rw[pm.length_eq,NR,hn]
  refine Na (wpAny_forIn_array' _ (λl _ U=>∃h' us,U={ s with heap:=h',drawn:=d }/\lQ r/\jB2/\(∀e∈l,zZ8)/\(∀k,(k∈us\/∃e∈l,y9)↔k∈f\/k∈a)/\us.length+l.length<=62) _ ?_ ?_ R _ ⟨j,f,rfl,v,u,hex,λk=>by rw[P k],by rw[Y];exact Nv (Nk hk aA)⟩)
  ·rintro e rest b U ⟨h2,us,rfl,m,hu,O,B,ah⟩
   obtain⟨x,c,rfl⟩:=O e NG;rw[N6]at ah;dsimp only;refine Na (ER (Qhc (s:={ s with heap:=h2,drawn:=d }) hu (by have:scanBound=4096:=rfl;lia) (fC b' T F Z)));have I:aI T o=sO ob:=by rw[F.2 o i.symm,m.2 o i.symm];exact S
   unfold Builtin.Frozenset.unchanged setEpoch;refine Na (Na (Na (N1 (s:={ s with heap:=T,drawn:=d }) I hd N f6)));rw[if_neg aF];refine Nj (Na (N1 (s:={ s with heap:=T,drawn:=d }) I hd N ?_));rw[if_neg aF];refine Nj ⟨T,_,rfl,m.trans F,Z,iV e g O,fX k,?_⟩
   ·rw [<-B k];have G:(strKind prog w).is k (Value.str x c)=true↔k=x:=⟨λz=>(strKind prog w).inj _ _ _ z (Qdb x c),λz=>by rw[z];exact Qdb x c⟩
    constructor
    ·rintro(z|⟨e,g,p⟩)
     ·split at z
      ·exact dU z
      ·show zB z
       ·exact dU z
       ·exact .inr ⟨_,NG,G.mpr (NK.mp z)⟩
     ·exact .inr ⟨e,Nt _ g,p⟩
    ·rintro(z|⟨e,g,p⟩)
     ·left;split
      ·exact z
      ·exact Ee _ z
     ·show qI g
      ·left;have:=G.mp p;split
       ·rename_i q;rw[this];exact q
       ·rw[this];simp
      ·exact .inr ⟨e,g,p⟩
   ·split
    ·lia
    ·rw[Nw,NX];lia
  ·rintro b U ⟨h2,us,rfl,m,hu,_,B,_⟩
   exact Nj (h h2 d us m hu λk=>by simpa using B k)
#print "-"
theorem Qm5:entryFor table "set.__or__"=sO Builtin.«frozenset.__or__»:=Ld (id':="frozenset.__or__") qM rfl bB qM
theorem QpX(a b:Value):argsOk "set.__or__" ⟨[a,b],[]⟩:=Hk
section
variable{prog:Program}{w:World}{A:Around}{E:bI}{s:Shared}
theorem Qq2{S:Addr}{Q:Bool->cS}(t:s.TypeIs (aC S) "set")(h:Q true s):wpAny aX A (Builtin.Frozenset.isAnySet (aC S)) Q E s:=by
 show fH o g f t;show hZ d b c a o;show zH f;have e:=Yah;unfold Builtin.Frozenset.isAnySet
 wp_walk
 exact h
#print "-"
section
variable{prog:Program}{w:World}{A:Around}{E:bI}{s:Shared}
theorem SetL.ty{h:Heap}{a:Addr}{ks:aD}{led:Bool}(d:yP h a){s:Shared}(e:s.heap=h):s.TypeIs (aC a) "set":=by
 subst e;obtain⟨o,g,i,t,c,b,f⟩:=d;exact⟨o,c,b.1⟩
theorem QsS{r o:Addr}{a b:aD}{id:String}{Q:Unit->cS}(p:SetL prog w s.heap r a m7)(e:SetL prog w s.heap o b m7)(c:r≠o)(h1:a=[]->bK r=sO iL)(m:a.length+b.length<=31)
  (h:∀h' d us,lQ r->SetL prog w h' r us m7->(zD1 a b)->ji8):wpAny aX A (Builtin.Frozenset.updateFrom id r (aC o)) Q E s:=by
 unfold Builtin.Frozenset.updateFrom;refine Na (Qq2 (e.ty rfl) ?_);rw[nC];refine Na f6
 by_cases i:a=[]
 ·subst i;unfold Builtin.Frozenset.merge;have g:=e;obtain⟨ob,F,G,t,v,B,hd,z,D,y,l,u,x,C,j⟩:=e;unfold setEpoch;refine Na (Na (N1 v hd y f6));exact QjJ (h1 rfl) g c (cD m) λh' n f _=>h h' s.drawn b n f λk=>aY
 ·exact Qol p e c i m h
theorem unionL{a b:Addr}{g f:aD}{Q:bI}(h1:SetL prog w s.heap a g m7)(I:SetL prog w s.heap b f m7)(C:a≠b)(hk:g.length+f.length<=31)
  (h:∀h' d us,(∀c o,bK c=sO o->aI h' c=sO o)->SetL prog w h' s.heap.objs.size us m7->(zD1 g f)->Q i4 { s with heap:=h',drawn:=d }) :
  wpAny aX A (binaryOp .BitOr (aC a) (aC b)) Q E s:=by
 have J:s.TypeIs (aC a) "set":=h1.ty rfl;have R:s.TypeIs (aC b) "set":=I.ty rfl;refine wpAny_binaryOp_same (T:="set") J R F.fills_set_or F.slot_set_or ?_;refine EE F.slot_set_or J Qm5 ?_ (QpX _ _);have u:=h1;have t:=I;obtain⟨⟨c1,d1,q1,U⟩,ab,af,P,Y,⟨r,n,l⟩,r1⟩:=h1;obtain⟨⟨c2,d2,q2,S⟩,aa,ae,O,X,⟨p,m,j⟩,r2⟩:=I;simp only at r n l p m j;subst r n l p m j;have M:=Yah;unfold Builtin.«frozenset.__or__»
 wp_walk
 refine Da f6;dsimp only;simp only[if_true,newObj];have N:(s.heap.push iL).get? s.heap.objs.size=sO iL:=fM;have H:SetL prog w (s.heap.push iL) a g m7:=u.at λo e=>k8;have x:s.heap.objs.size≠a:=DP u.lt;have i:s.heap.objs.size≠b:=DP t.lt;refine Na (wpAny_alloc f6)
 show wpAny _ _ (do
  setMerge s.heap.objs.size a
  pure (Value.ref s.heap.objs.size)) _ _ _
 refine Na (QjJ (s:={ s with heap:=s.heap.push iL }) N H x bL λh' L G he=>Nj ?_);dsimp only;have B:SetL prog w h' b f m7:=t.at λo e=>by rw[L.2 b i.symm];exact k8
 have y:((eK b != eK a)=true):=by simp[bne];exact λz=>C z.symm
 simp only[FU,if_false];rw[bW y];refine Na f6;refine Na (ER (QsS (s:={ s with heap:=h' }) G B i (λz=>by rw[he z];exact N) hk λh3 d us v D Z=>Nj f6));refine⟨_,rfl,aY,h h3 d us (jJ c o e) D Z⟩;rw[v.2 c (NY nP),L.2 c (NY nP)];exact k8
#print "-"
theorem uniq_nd:∀(n:Nat) (l:List PySem.Str),zi2->(uniq l).Nodup:=by
 intro n
 induction n with
 |zero=>intro l h;rw[CU];exact Dw
 |succ n d=>
  intro l h;have c:l≠[]:=λz=>by show bT z h
  rw[<-EJ c,uniq_snoc];have hd:=d l.dropLast (by rw[OI,h];rfl);split
  ·exact hd
  ·rename_i q;exact Ls.mpr ⟨hd,List.pairwise_singleton _ _,λa f b e z=>q (by rw[j2 e]at z;rw[<-z];exact f)⟩
theorem nd_lenEq{a b:List PySem.Str}(d:a.Nodup)(c:b.Nodup)(h:∀k,k∈a↔k∈b):a.length=b.length:=((List.perm_ext_iff_of_nodup d c).mpr h).length_eq
#print "-St"
namespace Mi
open L2
noncomputable def Qam(ws:aH)(h:MH):bJ:=match ws with
 |[a]=>(lsW h a).bind λc=>(txW c).bind λb=>if b.length<4000 then sO (.int (St.uniq b).length,h)else nO
 |_=>nO
noncomputable def Qcx(ws:aH)(h:MH):bJ:=match ws with
 |[a,b]=>(lsW h a).bind λf=>(txW f).bind λd=>(lsW h b).bind λe=>(txW e).bind λc=>if d.length<4000/\c.length<4000/\(St.uniq d).length+(St.uniq c).length<=31 then sO (.int (St.uniq (d++c)).length,h)else nO
 |_=>nO
section
variable{X:Cx}
theorem Qag{e:Expr}{me:ME}{p2 i:Pos}{c:bP}{s:Shared}{σ:L2.St}{H:Hp}{R:Rn}{g:MSt}{h h1:MH}{a:W}{ys:aH}{ss:aD}(hc:gR)(B:zi8)(r:zc8)(he:zl5)(E:kN)
  (I:cF c σ) (Y:tV) (st:Rst X.K R g σ) (e4:me g h=cP a h1) (e8:lsW h1 a=sO ys) (C:txW ys=sO ss) (hz:ss.length<4000) {Q:bI}
  (k:∀S o l M R2,Inv X ((S,o)::c) σ M l->zZ9 l->jF l S=sO o->kW R2->Rh X.K R2 h1 M->(∀p∈c,p.1≠S)->Q (aC S) l) :
  wpAny bZ X.A (eval (zF3 p2 e i) X.env) Q X.xe s:=by
 refine EI (Ka I B r boot_set (Em ?_ (Zg E) (VR rfl)) aA aA);rw[Zg E];refine EH (thn (he c s σ H (λv J=>∃R2,kW R2/\Rh X.K R2 h1 J/\Rw X.K R2 a v) I ⟨R,g,h,a,h1,Y,st,e4,λR2 J v x d n=>⟨R2,x,d,n⟩⟩) (aP u P N));obtain⟨v,L,I1,U,R2,O,d,n⟩:=N;refine DG ?_;obtain⟨ad,xs,rfl,Z,D⟩:=d.lsAt n e8;cases U;rw[QjR C]at D;obtain⟨aa,T,pl,hl⟩:=As Z;have G:=Qjp D T;have y:=Lc G;refine St.set_list (I1.ok.hd hc) pl.isList (by rw[Dq];exact G) (jk4 y) (fC g1 m f k1);obtain⟨o,es,ep,t,F,hx,hd,hr⟩:=id f;have I2:zL7 c σ L P g1 m:=I1.kept λb u e=>k1 b u nP e;refine k _ o _ L R2 (I2.pins_of (bQ p j)) f F O d λp j=>NY (ND (I1.pin p (NS _ j)).1)
 show qI j
 ·exact⟨F,I1.fresh,DP I1.lt,I1.nofs cO,λv z=>by rw[hd]at z;cases z⟩
 ·exact I2.pin p (NS _ j)
theorem Qde{a pins':bP}{s:Shared}{σ:L2.St}{H:Hp}{S:Addr}{us:aD}(I:cF a σ)(n:St.SetL X.prog X.w s.heap S us (St.ledW X.w)){Q:bI}(k:∀t b,iG a σ H b->Q (.int us.length t) b) :
  wpAny bZ X.A (call TJ [aG S]) Q X.xe s:=by
 obtain⟨o,p,r,t,g,e,hd,l,m,j,d,f,h,i,c⟩:=n;refine call_len_set g e hd j (by have:scanBound=4096:=rfl;rw[this]at m;lia) ?_;rw[i];exact k _ _ A3
theorem Qgf{z n d b:Pos}(J:gR)(F:Gl X "len")(E:X.mg "len"=nO)(j:zi8)(i:zc8)(G:zl5)(C:kN:=by rfl) :
  PM X (.Call (.Name "len" z) [Sr n b] [] d) (mFn Qam (Qb me Ql)):=by
 intro m s σ H Q I u;obtain⟨R,r,h,w,h',y,st,e1,A⟩:=u;obtain⟨⟨as,h2⟩,Z,Y⟩:=eH e1;show cX a h1 U T Z;obtain⟨⟨bs,h3⟩,P,O⟩:=eH T;show oS P O;refine EI (Ka I F E NO zu5 aA aA);rw[Zg (e:=Sr n b) rfl];obtain⟨ys,N,M⟩:=eH Y;show fQ x l c M;split at c
 ·show eF B c;refine EH (Qag J j i G C I y st U N l B λS o s1 H1 R2 I1 L ho v f _=>DG (Qde (pins':=[]) I1 L (aP t s2 I2)));exact⟨.int (St.uniq x).length,H1,I2.pins_of λp D=>I2.pin p (NS _ (Nt _ D)),hL t,A R2 _ _ v f zB3⟩
 ·cases c
theorem QhT{p1 p2 p3 m j f c:Pos}{i:Nat}{e A:Expr}{me:ME}(hc:gR)(hg:Gl X "len")(L:X.mg "len"=nO)(v:zi8)(u:zc8)(he:zl5)(M:PM X A D')(hs:kN:=by rfl)(F:VF A=false:=by rfl) :
  PM X (.Call (.Name "len" p1) [zU8] [] m) (mFn Qcx (Qb me (Qb D' Ql))):=by
 intro n s σ H Q I z0;obtain⟨R,aa,h,w,h',rh,st,e1,kk⟩:=z0;obtain⟨⟨as,h2⟩,e2,e3⟩:=eH e1;show cX a h1 e4 e5 e2;obtain⟨⟨bs,h3⟩,e6,e7⟩:=eH e5;cases e7;show cX b h4 x f5 e6;cases f5
 have hh:h4=h1:=by
  unfold Qe at x;split at x
  ·cases x;rfl
  ·cases x
 subst hh;obtain⟨ys,e8,e9⟩:=eH e3;obtain⟨ss,Y,U⟩:=eH e9;obtain⟨zs,f8,f9⟩:=eH U;obtain⟨tt,P,l⟩:=eH f9;refine EI (Ka I hg L NO zu5 aA aA);rw[Zg (e:=zU8) rfl];split at l
 ·show eF E l;refine EH (Oe (Qag hc v u he hs I rh st e4 e8 Y E.1 λS o s1 H1 R2 I1 hS ho Z C _=>?_));refine Qag hc v u M F I1 C (st.mono Z) x f8 P E.2.1 λT o2 y H2 R3 I2 hT ab x3 B r=>?_;have G:=I2.pin (S,o) (NS _ (Nt _ NG));have O:zZ9 y:=hS.at λo' z=>by rw[ho]at z;cases z;exact G.1
  have N:S≠T:=r _ NG;refine St.unionL O hT N E.2.2 λg d us kp hU L=>DG ?_;have I3:Inv X ((T,o2)::(S,o)::n) σ H2 { y with heap:=g,drawn:=d }:=Inv.drew (s:={ y with heap:=g }) (I2.kept (t':=y.toks) kp) d;refine Qde (pins':=[]) I3 hU (aP t s3 I4)
  have hl:us.length=(St.uniq (ss++tt)).length:=by
   obtain⟨_,_,_,_,_,_,_,_,_,_,_,_,J,_⟩:=id hU;refine St.nd_lenEq J (St.uniq_nd _ _ rfl) (fX k);rw[L k,zB4,zB4,zB4,NQ]
  rw[<-hl]at kk;exact⟨.int us.length,H2,I4.pins_of λp hp=>I4.pin p (NS _ (Nt _ (Nt _ hp))),hL t,kk R3 _ _ (eI Z x3) B zB3⟩
 ·cases l
#print "-"
theorem Qfn:∀{vs:aZ} {ys:eX},IntsAre vs ys->Vals (ys.map V.int) vs
 |_,_,.nil=>.nil
 |_,_,.cons _ t h=>.cons (hL t) (Qfn h)
theorem QeW{K:Nd}{h:Heap}{x:Str}{c:Addr}{n:Nat}(X:nQ)(G:tG d)(a:Bc=sO (sO (aC c)))
  (l:iF c=sO ⟨jO,dd,.seq b n,f⟩) (hz:zH0) (e:IntsAre b.toList ys):Glob K d x (.tup (ys.map .int)):=
 ⟨aG c,_,CG,rfl,λR=>by
  unfold Rw
  exact⟨c,_,rfl,.inr ⟨_,b,n,l,rfl,rfl,hz,Qfn e⟩,QcI ys⟩⟩
#print "-Mi"
namespace Rv
theorem slot_rev_next:Slot "reversed" "__next__" "reversed.__next__":=.of (owner:="reversed") (n:="__next__") Ho bB bB bB (by first|exact .inl bB|exact .inr bB) B1
theorem Y1:Slot "reversed" "__iter__" "reversed.__iter__":=.of (owner:="reversed") (n:="__iter__") Ho bB bB bB (by first|exact .inl bB|exact .inr bB) B1
theorem GJ:Slot "reversed" "__init__" "object.__init__":=.of (owner:="object") (n:="__init__") Ho bB bB bB (by first|exact .inl bB|exact .inr bB) B1
theorem Yk:entryFor table "reversed.__next__"=sO Builtin.«reversed.__next__»:=entryFor_of_tree qM
theorem Y0(a:Value):argsOk "reversed.__next__" ze1:=Hk
theorem Gi(a:Value):argsOk "reversed.__iter__" ze1:=Hk
theorem US:entryFor table "reversed.__iter__"=jd1:=
 Ld (id':="dict_keyiterator.__iter__") qM (by first|rfl|show rQ|(unfold String.splitOn;simp +decide [String.splitOnAux])) bB qM
theorem QdA:TypeCalled "reversed" "reversed.__new__" "object.__init__":=
 ⟨fW,fW,⟨_,_,F.mro_reversed⟩,F.made_reversed,fW,by rw[DM];kernel_rfl,GJ⟩
theorem Qng:typeLookup tH "__reversed__"=pure nO:=by rw[Fk,Dy];kernel_rfl
section
variable{prog:Program}{w:World}{A:Around}{E:bI}{s:Shared}
def IsRev(h:Heap)(a l:Addr)(i:Int):Prop:=∃o,aI h a=sO o/\o.cls=T'/\o.data=.fields #[aG l,oR i]
theorem IsRev.typeIs{a l:Addr}{i:Int}(x:IsRev s.heap a l i):s.TypeIs (aC a) "reversed":=let⟨o,b,c,_⟩:=x;⟨o,b,c⟩
theorem IsRev.at{h h':Heap}{a l:Addr}{i:Int}(x:IsRev h a l i)(e:∀o,aI h a=sO o->aI h' a=sO o):IsRev h' a l i:=let⟨o,b,r⟩:=x;za7
theorem Qgl(l:Addr)(items:dC)(hz:l7<2^62):Meets (Builtin.«reversed.__new__» ⟨[T',aG l],[]⟩) (λ_ R s=>HV l /\
      R (.ok (.ret i4)) { s with heap:=s.heap.push { cls:=T',data:=.fields #[aG l,rawInt (l7-1)] },toks:=hJ+1 }):=
  .of_wp λprog w A R s h=>by
    show AA f h;have b:=f;obtain⟨⟨c,d,q,j⟩,i,g,n,hd⟩:=f;show TQ g;have e:isSubtype tH zJ1=oM:=by rw[DM];kernel_rfl
    unfold Builtin.«reversed.__new__»;refine Na (DC (newClass_reversed _) ?_)
    try dsimp only
    refine jb1;refine jb1
    try dsimp only
    refine Na (FO b.typeIs Qng ?_)
    try dsimp only
    wp_walk using AutoSeq1.wpAny_loadPart' i
    refine DC (show typeLookup tH (Str.ofString "__getitem__")=pure (sO (.builtin "tuple.__getitem__"))from Ep.lookup) ?_;dsimp only;rw[if_pos bB];refine Nj ?_;rw[if_neg aF];refine Na (len_tuple b aQ ?_);refine Na (DC (a:=sO l7) rfl ?_);dsimp only;show pW;unfold Builtin.SmallTypes.newRecord;dsimp only;refine Eh ?_ M6;exact Nj tT
theorem call_rev{l:Addr}{items:dC}{Q:bI}(a:HV l)(hz:l7<2^62)
  (h:Q i4 { s with heap:=s.heap.push { cls:=T',data:=.fields #[aG l,rawInt (l7-1)] },toks:=hJ+1 }):wpAny aX A (call (.type "reversed") [aG l]) Q E s:=
 callType_new QdA aA (F.typeCall_reversed_1 _) (F.newCall_reversed_1 _) (λobj=>OM obj _) F.entry_reversed_new (Qgl l items hz) ⟨a,⟨_,fM,rfl⟩,h⟩
theorem next_item{it l:Addr}{i:Nat}{items:dC}{x:Value}{Q:jS->cS}(hit:IsRev s.heap it l eB)(d:HV l)(c:rJ=sO x)(hz:l7<2^62)
  (f:∀h' tk,IsRev h' it l (eB-1)->zz5 h'->Q (sO x) { s with heap:=h',toks:=tk }):wpAny aX A (pyNext iE) Q E s:=by
 obtain⟨o,b,e,hd⟩:=id hit;have g:i<items.size:=rR c;unfold pyNext
 refine Na (FK (EO (name:=Su) hit.typeIs slot_rev_next
  jb2))
 show zU9
 refine Na (Es b hd (x:=aG l) rfl ?_);refine Na (Es b hd (x:=rawInt eB) rfl ?_);show wpAny _ _ (if eB<0 then _ else _) _ _ s;rw[if_neg aQ];refine Na (FO d.typeIs Ep.lookup ?_);rw[if_neg aF];refine Na (Od ?_);refine Na (FK (getItem_tuple (s:={ s with toks:=hJ }) d aQ aQ (j:=i) (by unfold seqIndex?;simp;lia) c ?_));refine Na (Es (s:={ s with toks:=hJ }) b hd (x:=rawInt eB) rfl ?_);refine Na (ED (s:={ s with toks:=hJ }) b hd aF ?_);refine Nj ⟨x,rfl,Nj (f _ _ ?_ uH)⟩
 exact⟨_,zF2 b,(Yaw ..).trans e,by
  rw[Ei hd];simp⟩
theorem next_end{it l:Addr}{Q:jS->cS}(hh:jU)(hit:IsRev s.heap it l (-1))
  (e:∀h' tk,jy9->Q nO { s with heap:=h',toks:=tk }):wpAny aX A (pyNext iE) Q E s:=by
 obtain⟨o,c,f,hd⟩:=id hit;unfold pyNext
 refine Na (FK (EO (name:=Su) hit.typeIs slot_rev_next
  jb2))
 show zU9
 refine Na (Es c hd (x:=aG l) rfl ?_);refine Na (Es c hd (x:=rawInt (-1)) rfl ?_);show wpAny _ _ (if(-1:Int)<0 then _ else _) _ _ s;rw[if_pos aA];refine Na (Ii ?_);refine Na (show wpAny _ _ (setField iE 1 (rawInt (-1))>>=λ_=>setField iE 0 .none) _ _ _ from ?_);refine Na (ED c hd aF ?_);have d:(s.heap.update it (Obj.mapFields λx=>zs5)).get? it=sO (Obj.mapFields (λx=>zs5) o):=zF2 c;refine ED (s:={ s with heap:=s.heap.update it (Obj.mapFields λx=>zs5) }) d (Ei hd _) aF ?_
 first
 |show wpAny _ _ (zr6>>=_) _ _ _
 |(show pW;show wpAny _ _ (zr6>>=_) _ _ _)
 show pW;simp only[newExc,newTuple];refine Na (Eh ?_ M6);refine Na (m:=firstArgMember _ _) (DC (a:=Value.none) zZ7 ?_);refine Eh ?_ M6;simp only[raiseNew];refine Na (OT ?_)
 first|rw[show TY from hh]|rw[hh]
 refine jy8;refine Na (IE (T:="StopIteration") (b:=true) ⟨_,fM,rfl⟩ isSubtype_stop ?_);refine Nj (e _ _ ((YaJ (YaJ ?_ _) _)));exact(O5 uH).trans (O5 uH)
theorem iter_self{it l:Addr}{i:Int}{Q:bI}(hit:IsRev s.heap it l i)(h:Q iE s):wpAny aX A (pyIter iE) Q E s:=by
 refine Lv hit.typeIs Y1 (EE Y1 hit.typeIs US ?_ (Gi _));show wpAny _ _ (ret iE) _ _ s;exact Nj ⟨_,rfl,"reversed",_,hit.typeIs,slot_rev_next.lookup,h⟩
#print "-"
theorem small{n:Nat}(h:zf9):eL<2^62:=by rw[DB]at h;lia
theorem Qc5{h h':Heap}{a:Addr}{items:dC}(x:IsTup h a items)(e:∀o,aI h a=sO o->aI h' a=sO o):IsTup h' a items:=let⟨o,b,r⟩:=x;za7
theorem Qjo{prog:Program}{w:World}{A:Around}(hh:jU)(I l:Addr)(m:l≠I)(items:dC)(hz:l7<2^62) :
  Walks prog w A I [I,l] [I] items.size (λi v=>items[Mg]?=sO v) (λi h=>i<=items.size/\IsRev h I l (l7-1-eB)/\IsTup h l items) where
 sub:=zx6 c
 frame:=λ_ _ _ x t=>⟨x.1,x.2.1.at λo e=>t I aF o e,Qc5 x.2.2 λo e=>t l aF o e⟩
 item:=λi s Q E u x f=>by
  have e:l7-1-eB=((Mg:Nat):Int):=fZ
  have hit:=x.2.1;rw[e]at hit;have r:items[Mg]?=sO (items[Mg]' bL):=Ef bL;refine next_item hit x.2.2 r hz (fC p j a d);have y:((Mg:Nat):Int)-1=l7-1-zK3:=aU
  rw[y]at a;exact f _ p j r ⟨u,a,Qc5 x.2.2 λo g=>(d.2 l m).trans g⟩ λb o c g=>d.extBut b o (λh=>c (kS h)) g
 done:=λs Q E x f=>by
  have e:l7-1-l7=-1:=aU
  have hit:=x.2.1;rw[e]at hit;exact next_end hh hit λp j n=>f p j λb o c g=>n b o (λh=>c (kS h)) g
 self:=λ_ _ _ _ x f=>iter_self x.2.1 f
#print "-Rv"
namespace L2
section
variable{X:Cx}
noncomputable def QpP(K:Nd)(a:Addr)(n:Nat):It:=⟨λi H=>i<n/\∃b,qZ/\zX,λi H x c=>c=H/\∀b,qZ->b[n-1-i]?=sO x,λi _=>n<=i⟩
theorem QkR{K:Nd}(a it:Addr)(n:Nat):Turn P w K tg (QpP K a n) [it] it (λi h=>i<=n/\Rv.IsRev h it a (eL-1-eB)) where
 mem:=aY
 obj:=λi h st b j=>by
  have e:b=it:=cL j
  show zw3;exact⟨o,e,λv z=>by show bT d z⟩
 keep:=λi h r st k=>⟨st.1,st.2.at λo e=>k it aF o e⟩
 item:=by
  intro X y hw A O i f s G H E I m st t;subst y hw A;obtain⟨hi,J,N,hl⟩:=t;obtain⟨T,L,p,U⟩:=eQ N;obtain⟨x,M⟩:∃x,J[n-1-i]?=sO x:=⟨J[n-1-i]' bL,Nl _⟩
  show fY u Z S L M;obtain⟨F,f1,f2,D,C,B⟩:=m it aF;have e:eL-1-eB=Tz:=fZ
  show To;refine Rv.next_item hit p (x:=u) (cD Z) (Rv.small (by rw[Nr,<-L.length];exact U)) (fC r l g R);have e2:Tz-1=eL-1-zK3:=aU
  rw[e2]at g;have I1:zL7 f G H s r l:=I.turned (t':=l) (Hu j R) F f1 D C B;show L' g;exact⟨u,rfl,QdI (s:={ s with heap:=r,toks:=l }) e c d aA ⟨x,H,I1,S,jl2 Y N M,⟨hi,g⟩,pH j m⟩⟩
 done:=by
  intro X y hw A O i f s G H E I m st t;subst y hw A;obtain⟨F,f1,f2,D,C,B⟩:=m it aF;have aa:n<=i:=t;have e:eL-1-eB=-1:=by have:=st.1;lia
  show To;exact Rv.next_end (pS O) hit λr l eb=>⟨rfl,I.turned (t':=l) (Tl j) F f1 D C B⟩
 self:=λ_ _ _ _ _ st h=>Rv.iter_self st.2 h
noncomputable def iRt(K:Nd)(f:TA):TI:=λd H R=>f d H λe c=>∃a b,e=[aG a]/\SqT K c a b/\R (QpP K a b.length) c
theorem QqJ{r a:Expr}(E:W')(D:Tj)(G:PA X [a] t)(B:qA:=by rfl):PI X r RI (iRt X.K t):=by
 show cZ c m R;refine Call_ (Ka I E D boot_reversed (Em (thn (rE G c m h) (aP M f n)) B rfl));show cA L J I1 x y n;show za1 g C y;show oW w x;obtain⟨d,v,z,A⟩:=I1.tuple C;show g6 j v;refine Rv.call_rev z (Rv.small (za6 j A)) ?_;refine Rv.iter_self (l:=ad) (i:=zz3-1) ⟨_,fM,rfl,rfl⟩ ?_;refine⟨f.heap.objs.size,K' f,_,_,J,rfl,I1.kept (t':=f.toks+1+1) λb o e=>k8,QkR ad _ g.length,⟨Eg _,?_⟩,bQ b F,q⟩
 ·refine⟨_,fM,rfl,?_⟩;have:jp2=(g.length:Int)-1-l':=by rw[Nr,j];simp
  rw[<-this]
 ·have e:b=f.heap.objs.size:=cL F
  subst e;exact I1.fpOk cO (I1.hok.fresh cO)
#print "-"
#print "-L2"
namespace Mi
open L2
noncomputable def Qum(ws:aH)(h:MH):bJ:=match ws with
 |[fA]=>sO (oG,h++[.lst ws.reverse])
 |_=>nO
noncomputable def QpG(ms:MA):MI:=λa h=>(ms a h).bind λp=>match p.1 with
 |[mL b]=>sO (b.reverse,nO,p.2)
 |_=>nO
section
variable{K:Nd}{R:Rn}
theorem Qmt(l:zb3)(r:gZ):ItOk K R (QpP K a xs.length) ws.reverse nO where
 go:=λi w j h H x d _ e=>by
  have c:=cG e;rw[Et,r.length]at c;exact⟨c,xs,Jv (h9 d x) l,rfl⟩
 yld:=λi w j h H x t e d _ g m=>by
  show uD n m;have c:=cG g;rw[Et]at c;rw[Fw c]at g;show fY v s p r g;have:=n xs (Jv (h9 d e) l);rw[<-r.length,s]at this;cases this;show S0 d
 stop:=λi j h H x d _ c=>jl3
#print "-"
section
variable{X:Cx}{tg a:Expr}{ms:MA}{p pos:Pos}
theorem Qo1(x:W')(w:Tj)(y:Mw)(u:qA:=by rfl):PMI X tg RI (QpG ms):=
 Gh (QqJ x w y u) λD H C j=>by
  obtain⟨R,c,h,items,o,G,t,st,e,k⟩:=j;show cX n z A d e;refine⟨R,c,h,n,z,t,st,A,fB R1 B E m b r⟩;split at d
  ·show Ry F f;show fG f;show zE7;exact⟨ad,l,rfl,Jv b.sub i,k R1 B _ m b (Qmt i s)⟩
  ·cases d
#print "-"
noncomputable def Qei(a b:W)(h:MH):bJ:=(loW h a).bind λd=>(loW h b).bind λc=>if S7 then sO (oG,h++[.lst (d++c)])else nO
theorem Qdh{X:Cx}:OpR X yV (F2 X.K Qei):=by
 intro c s n H x y v u Q I C B q;refine(op_add.or jh6) c s n H x y v u Q I C B ?_;obtain⟨R,h,a,b,w,Y,g,E,D,e,k⟩:=q;show lW t M;show lW r L;split at e
 ·show eF U e;obtain⟨ad,j,f1,G,m⟩:=g.loAt E M;obtain⟨N,i,f2,F,l⟩:=g.loAt D L;show j6 T m S l;refine .inr (.inr (.inr ⟨ad,N,j,i,f1,f2,G,F,aU,bQ p J⟩));obtain⟨O,z,f,d⟩:=g.new (mo:=.lst (t++r)) (o:=.lst (j++i)) J λZ A=>⟨_,rfl,Rws.mono A _ _ (Rws.append m l)⟩
  exact k O _ _ z f d
 ·cases e
#print "-Mi"
namespace L2
section
variable{X:Cx}{a b e o:Expr}{es:eE}{ta tb te to:TE}{t:TA}{pos:Pos}
def PEp(X:Cx)(e:Expr)(t:TE):Prop:=
 ∀(c:bP) (s:Shared) (d:St) (H:Hp) (Q:VK),cF c d->zl8->uX d->wpAny bZ X.A (iC e) (EP X c d Q) X.xe s
def PEm(X:Cx)(e:Expr)(t:TE):Prop:=
 ∀(c:bP) (s:Shared) (d:St) (H:Hp) (Q:VK),cF c d->uX d->wpAny bZ X.A (iC e) (λu f=>1<=f.toks/\EP X c d Q u f) X.xe s
def PAp(X:Cx)(es:eE)(t:TA):Prop:=
 ∀(pos:Pos) (c:bP) (s:Shared) (d:St) (H:Hp) (Q:bD->dQ),cF c d->zl8->uX d->wpAny bZ X.A (spliced (backTo pos qE)) (AP X c d Q) X.xe s
theorem Qqm{c:Type}{m:Sem c}{Q Q':c->cS}{M:Model}{A:Around}{E:bI}{s:Shared}(n:zl8)(h:zi0 m Q)(d:∀a s,zl8->Q a s->Q' a s):zi0 m Q':=
 NZ (OU n h) (λ_ _ x=>d _ _ x.1 x.2) λ_ _ x=>x.2
theorem Qif(y:rF)(w:PAp X es t)(v:q5:=by rfl):PAp X eO zh6:=by
 intro pos c s d H Q I n h;rw[v];show Rq;refine EH (Qqm n (eW y c d) (fC u i r z));show cA x B I1 l p z;refine thn (w pos c i d B _ I1 r p) (aP C D f);show cA g A I2 j m f;show zC2 A
theorem Qh9(w:PEp X e te)(v:Pu)(r:q5:=by rfl):PAp X eO zh6:=by
 intro pos c s f H Q I n h;rw[r];show Rq;refine EH (thn (w c s f H _ I n h) (aP u i d));show cA x z I1 l p d;refine thn (v pos c i f z _ I1 p) (aP A B d);show cA g y I2 j m d;show zC2 y
theorem QhI(w:PEm X e te)(v:PAp X es t)(r:q5:=by rfl):PA X eO zh6:=by
 intro pos c s d H Q I h;rw[r];show Rq;refine EH (thn (eW w c d) (aP u i z));obtain⟨p,x,A,I1,l,n⟩:=z;refine thn (v pos c i d A _ I1 p n) (aP B C f);show cA g y I2 j m f;show zC2 y
theorem QkK{op:Operator}{r:R2}{x:Str}{j p}(l:B2)(m:nJ):PEm X (.BinOp a op (.Constant cM j p) pos) (tOp r ta (tC cM)):=by
 show cZ c d Q;refine Oe (thn (eW m c d) (aP v w f));show cA y u I1 g i f;refine Ff ?_;exact NZ (OU (n:=1) (Oa 1 _) (l c _ d u y cM v _ Q (I1.tok _) g cN i)) (xB x) λ_ _ x=>x.2
theorem Qko{op:Operator}{r:R2}{x:Str}{j p}(l:B2)(m:uA):PEm X (.BinOp (.Constant cM j p) op b pos) (tOp r (tC cM) tb):=by
 show cZ c d Q;refine Oe (Ff (Qqm (Oa 1 _) (m c _ d H _ A3 h) (fC v u i z)));show cA y n I1 f g z;exact NZ (OU i (l c _ d n cM y _ v Q I1 cN f g)) (xB x) λ_ _ x=>x.2
theorem QbK{y z:Str}{u p r m apos c}(C:PE X o to)(i:(y==z)=false)
  (f:attributeBase o "replace" X.env (iC o)=iX o:=by rfl) (d:jq9:=by rfl) :
  PEp X (.Call jk6 [.Constant lE u p,.Constant (lM z) r m] [] c)
   (λσ H Q=>to σ H λx j=>∃a,x=aJ a/\a.length+(eY a)*z.length<=16777216/\Q (.str (zR4 a)) j):=by
 intro g s σ H Q I n h;refine Oh f rfl d rfl (Qqm n (eW C g σ) (fC v J B q));obtain⟨x,j,I1,l,a,rfl,D,A⟩:=q;obtain⟨G,E⟩:=Qf9 (T:="str") I1 l rfl;refine⟨"str","str.replace",N4,F.slot_str_replace,F.type_str_replace,G,E,?_⟩;obtain⟨t,rfl⟩:=(vG v a l)
 refine Iz rfl (OF ?_);refine EH (Ff (k:=u) (pos:=p) (EH (Ff (k:=r) (pos:=m) (DG ?_))));exact SC.replace (DP B) (Nat.succ_ne_zero _) (NY uP) i D λw k=>⟨k9,j,I1.tok _,hL w,A⟩
#print "-"
#print "-L2"
namespace Mi
open L2
section
variable{X:Cx}{a b e o:Expr}{es:eE}{m ma mb mo:ME}{ms:MA}{pos:Pos}
def PMp(X:Cx)(e:Expr)(m:ME):Prop:=PEp X e (tI X.K m)
def PMm(X:Cx)(e:Expr)(m:ME):Prop:=PEm X e (tI X.K m)
def QpH(X:Cx)(es:eE)(m:MA):Prop:=PAp X es (tIA X.K m)
theorem QlO{K:Nd}(l:tIA K Pk σ H Q):QgF (tI K m) (tIA K ms) σ H Q:=by
 obtain⟨R,c,h,A,B,s,st,e,k⟩:=l;show cX a j v y e;show cX b t u w y;cases w
 exact⟨R,c,h,a,j,s,st,v,λR1 C x i f r=>⟨R1,c,j,b,t,f,pT i,u,λR2 z n g d p=>
  k R2 z (x::n) (eI i g) d (Rws.cons (A1 g r) p)⟩⟩
theorem QeB(h:Af)(g:QpH X es ms)(f:kN:=by rfl):QpH X eO Pk:=
 λp c s d H Q I n q=>Qif h g (Zg f) p c s d H Q I n (QlO q)
theorem Qbv(h:PMp X e m)(g:MU)(f:kN:=by rfl):QpH X eO Pk:=
 λp c s d H Q I n q=>Qh9 h g (Zg f) p c s d H Q I n (QlO q)
theorem QaZ(h:PMm X e m)(g:QpH X es ms)(f:kN:=by rfl):PMA X eO Pk:=
 λp c s d H Q I q=>QhI h g (Zg f) p c s d H Q I (QlO q)
theorem Ql3{x:Str}{j p}(i:B2)(l:wK)(n:lD):PMm X (.BinOp a op (.Constant cM j p) pos) (Qi f ma (mC cM)):=
 λc s d H Q I q=>QkK i n c s d H Q I (Jf CL λ_ _ h=>QaI (λ_=>Rw.str _) (Jf h λ_ _ g=>l _ _ _ _ g))
theorem Qmy{x:Str}{j p}(i:B2)(l:wK)(n:wV):PMm X (.BinOp (.Constant cM j p) op b pos) (Qi f (mC cM) mb):=
 λc s d H Q I q=>Qko i n c s d H Q I (QaI (λ_=>Rw.str _) (Jf CL (SH h g l)))
noncomputable def Qe2(y z:Str)(a:W)(h:MH):bJ:=match a with
 |aJ x=>if x.length+(eY x)*z.length<=16777216 then sO (.str (zR4 x),h)else nO
 |_=>nO
theorem Uu{y z:Str}{C A B u apos c}(D:Py)(j:(y==z)=false)
  (f:attributeBase o "replace" X.env (iC o)=iX o:=by rfl) (d:jq9:=by rfl) :
  PMp X (.Call jk6 [.Constant lE C A,.Constant (lM z) B u] [] c) (mUn (Qe2 y z) mo):=
 λi s l H Q I n q=>QbK D j f d i s l H Q I n <|Jf (un1 q) λv F t=>by
  obtain⟨R,h,a,w,G,p,r,g,k⟩:=t;unfold Qe2 at g;split at g
  ·show wR x g
   ·show eF E g;exact⟨x,r.str_eq,E,k R F _ c9 p wN⟩
   ·cases g
  ·cases g
#print "-"
open Builtin Builtin.Str
noncomputable def Qrx(x y:Str):Bool:=!(occurrences x y 0 x.length 1).isEmpty
noncomputable def QmP(a b:W)(h:MH):bJ:=match a,b with
 |aJ y,aJ x=>sO (.bl (!Qrx x y),h)
 |_,_=>nO
theorem Qdt{X:Cx}:OpR X zB0 (F2 X.K QmP):=by
 intro f s l H x y v u Q I d c q;obtain⟨R,h,a,b,w,n,g,j,i,e,k⟩:=q;unfold QmP at e;split at e
 ·cases e;rw[j.str_eq]at d;rw[i.str_eq]at c;show aO t d;show aO m c;exact notIn_gives (Ig s _ _) F.slot_str_contains F.entry_str_contains (F.args_str_contains_2 _ _) (gives_str_contains _ _ _ _) ⟨.bl _,H,I,rfl,k R H _ c9 g jC⟩
 ·cases e
#print "-Mi"
namespace Sp
open PySem Builtin Builtin.Str StrLaws
theorem Qfz(x:Str)(c:Nat)(b:Nat):∀(n i:Nat) (st:PB×Nat),st.2<=i->st.1.size<=i->i+n<=b ->
  (forIn (List.range' i n) st (occBody x hG x.length b)).run.fst.toList=st.1.toList++(List.range' i n).filter S8
 |0,i,st,_,_,_=>aY
 |n+1,i,st,h1,g,h=>by
  rw[IF,YaL];unfold occBody
  by_cases e:x.cps.toList[i]?=sO c
  ·have d:=(subAt_one x c i).mpr e;rw[if_pos ⟨⟨⟨aU,h1⟩,d.1⟩,d.2⟩];have f:=Qfz x c b n (i+1) (st.1.push i,i+1) cO (by simp;exact g) aQ;rw[LW (p:=S8) (a:=i) (beq_iff_eq.mpr e)];refine Eq.trans f ?_;simp
  ·have d:¬(i+(hG:Str).length<=x.length/\subAt x hG i=true):=λz=>e ((subAt_one x c i).mp z);rw[if_neg (λz=>d ⟨z.1.2,z.2⟩)];have f:=Qfz x c b n (i+1) (st.1,st.2) (by show st.2<=i+1;exact Ng h1 dZ) (by show st.1.size<=i+1;exact Ng g dZ) aQ;rw[LY (p:=S8) (a:=i) (λz=>e (beq_iff_eq.mp z))];exact f
theorem QeX(x:Str)(c:Nat):occurrences x hG 0 x.length (eY x)=(List.range' 0 (eY x)).filter S8:=by
 rw[occ_eq];refine(Qfz x c _ _ 0 (#[],0) cO cO aQ).trans ?_;simp
def fre(c:Nat)(y:Str):Prop:=c∉y.cps.toList
theorem Qet(x:Str)(i j p:Nat)(d:Nat)(h:(strSub x i j).cps.toList[p]?=sO d):i+p<j/\x.cps.toList[i+p]?=sO d:=by
 rw[strSub_toList,List.getElem?_take]at h;split at h
 ·rw[F9]at h;exact⟨fZ,h⟩
 ·cases h
theorem Qia(x:Str)(c:Nat):∀(a:dD) (s:Nat),a.Pairwise (·<·)->(∀p∈a,s<=p)->(∀p,s<=p->x.cps.toList[p]?=sO c->p∈a) ->
  ∀y∈((s::a.map (·+1)).zip (a++[x.length])).map (λ(q:Nat×Nat)=>strSub x q.1 q.2),xF:=by
 intro a
 induction a with
 |nil=>
  intro s _ _ h y b;show Ai b;intro i;obtain⟨p,d,e⟩:=IV i;obtain⟨_,f⟩:=Qet x s x.length p c (by rw[Nl d,e]);simpa using h _ dZ f
 | cons k a m=>
  intro s d n h y b;have o:=n k aF;rw[List.pairwise_cons]at d;simp only[NA,LJ,Yaj,NC]at b
  show PH b
  ·intro i;obtain⟨p,g,e⟩:=IV i;obtain⟨l,f⟩:=Qet x s k p c (by rw[Nl g,e])
   rcases NC.mp (h _ dZ f)with z|z
   ·exact EU (dX z) l
   ·have:=d.1 _ z;exact EU (Nv this) l
  ·refine m (k+1) d.2 (λp z=>d.1 p z) (jJ p z q) y b
   rcases NC.mp (h p (Nv (Nk o z)) q)with j|j
   ·lia
   ·exact j
theorem QbI(l:dD)(p:Nat->Bool)(h:l.Pairwise (·<·)):(l.filter p).Pairwise (·<·):=h.sublist List.filter_sublist
theorem QfV(x:Str)(c:Nat):∀y∈partsBetween x (occurrences x hG 0 x.length (eY x)) 1,xF:=by
 rw[QeX];refine Qia x c _ 0 (QbI _ _ List.pairwise_lt_range') (λ_ _=>Eg _) λp _ h=>?_;rw[FP];have a:p<x.cps.toList.length:=cG h;show zp5 b
 exact⟨by rw[YaP];exact⟨p,by exact Np (Np a (dX b)) dZ,aU⟩,beq_iff_eq.mpr h⟩
noncomputable def sg(c:Nat):Str:=hG
theorem U8(x:Str)(c:Nat)(l:c<256):Txt.split x eM≠[]/\(∀y∈Txt.split x eM,xF)/\Str.join eM (Txt.split x eM)=x:=by
 have nO:∀h:c∉x.cps.toList,([x]:aD)≠[]/\(∀y∈[x],xF)/\Str.join eM [x]=x:=λh=>
  ⟨aY,λy b=>by show Ai b;exact h,rfl⟩
 unfold Txt.split;split
 ·rename_i h;refine nO (fX a);have i:Mu=1:=rfl;have j:Str.strKind eM=1:=by unfold Str.strKind sg;simp[l]
  have m:1<=Str.strKind x:=by unfold Str.strKind;split;exact Ny _;split<;>decide
  show zp5 f
  have:0<x.cps.toList.length:=IB a;rw[i,j]at h;simp at h;lia
 ·split
  ·rename_i h;refine nO (fX a);obtain⟨p,d,e⟩:=IV a
   have z:p∈occurrences x eM 0 x.length (eY x):=by
    unfold sg;rw[QeX,FP];show zp5 f
    exact⟨by rw[YaP];exact⟨p,by exact Np (Np d (dX f)) dZ,aU⟩,by rw[Nl d,e];simp⟩
   rw[LK.mp h]at z;cases z
  ·have g:=glued_between_self x eM (eY x);rw[glued_eq_join]at g;refine⟨?_,QfV x c,g⟩;unfold partsBetween;intro z;have:=HD z;show k7
theorem join_cons2(s a b:Str)(r:aD):Str.join s (a::b::r)=a++s++Str.join s Au:=rfl
theorem app_cps(x y:Str):zp1:=by
 show zx8
theorem ext{x y:Str}(h:ju9):x=y:=by
 obtain⟨x⟩:=x;obtain⟨y⟩:=y;have:x=y:=Array.ext' h;rw[this]
theorem QfI{c:Nat}:∀{a b u v:dD},c∉a->c∉b->a++c::u=b++c::v->a=b/\u=v
 |[],[],_,_,_,_,h=>⟨rfl,cL h⟩
 |[],d::b,_,_,_,f,h=>by simp at h;exact absurd h.1 (l6 f)
 |d::a,[],_,_,g,_,h=>by simp at h;exact absurd h.1.symm (l6 g)
 |d::a,e::b,u,v,g,f,h=>by
  simp at h;obtain⟨rfl,h⟩:=h;obtain⟨j,i⟩:=QfI (l6 g) (l6 f) h;exact⟨by rw[j],i⟩
theorem Qdc(c:Nat):∀{ps f:aD},ps≠[]->f≠[]->(∀y∈ps,xF)->(∀y∈f,xF)->Str.join eM ps=Str.join eM f->ps=f
 |[],_,h,_,_,_,_=>nE h
 |_,[],_,h,_,_,_=>nE h
 |[a],[b],_,_,_,_,h=>by rw[show a=b from h]
 |[a],b::d::r,_,_,i,_,h=>by
  rw[join_cons2]at h;have z:=congrArg zz7 (show a=_ from h);simp only[app_cps]at z;exact(i a aF (by rw[z];simp[sg])).elim
 |a::d::r,[b],_,_,_,g,h=>by
  rw[join_cons2]at h;have z:=congrArg zz7 (show _=b from h);simp only[app_cps]at z;exact(g b aF (by rw[<-z];simp[sg])).elim
 |a::d::r,b::e::q,_,_,i,g,h=>by
  rw[join_cons2,join_cons2]at h;have z:=congrArg zz7 h;simp only[app_cps]at z;obtain⟨m,l⟩:=QfI (c:=c) (u:=(Str.join eM (d::r)).cps.toList) (v:=(Str.join eM (e::q)).cps.toList) (i a aF) (g b aF) (by simpa[sg]using z);rw[ext m,Qdc c aF aF (mZ y j i) (mZ y j g) (ext l)]
theorem Gg{c:Nat}(d:c<256){ps:aD}(a:ps≠[])(b:∀y∈ps,xF):Txt.split (Str.join eM ps) eM=ps:=by
 obtain⟨g,f,e⟩:=U8 (Str.join eM ps) c d;exact Qdc c g a f b e
#print "-Sp"
namespace L2
noncomputable def XO(a C:Addr)(dd:dW):HO:=.ext λh=>∃o b,aI h a=sO o/\o.cls=aG C/\o.dict=dd/\o.data=Av b
structure Sm(Z S:cV)(h h':Heap):Prop where
 keep:∀b o,aI h b=sO o->b∉Z->b∉S->aI h' b=sO o
 slot:∀b o,aI h b=sO o->b∉Z->∃sl,aI h' b=jz9
 there:∀b o,aI h b=sO o->∃o',aI h' b=sO o'
theorem Sm.refl{Z S:cV}(h:Heap):Sm Z S h h:=⟨λ_ _ e _ _=>e,λ_ o e _=>⟨o.slots,e⟩,λ_ o e=>iI o e⟩
theorem Sm.trans{Z S:cV}{h1 d c:Heap}(x:Sm Z S h1 d)(y:Sm Z S d c):Sm Z S h1 c:=
 ⟨λb o e n m=>y.keep b o (x.keep b o e n m) n m,λb o e n=>let⟨_,a⟩:=x.slot b o e n;let⟨f,g⟩:=y.slot b _ a n;⟨f,g⟩,
  λb o e=>let⟨_,a⟩:=x.there b o e;y.there b _ a⟩
theorem Sm.of{Z S:cV}{h h':Heap}(k:∀b o,aI h b=sO o->b∉Z->aI h' b=sO o)(t:∀b o,aI h b=sO o->∃o',aI h' b=sO o'):zg8:=
 ⟨λb o e n _=>k b o e n,λb o e n=>⟨o.slots,k b o e n⟩,t⟩
theorem Sm.mono{Z a S:cV}{h h':Heap}(x:zg8)(z:∀b∈Z,b∈a):Sm a S h h':=
 ⟨λb o e n m=>x.keep b o e (λq=>n (z b q)) m,λb o e n=>x.slot b o e λq=>n (z b q),x.there⟩
theorem Qep{l:cV}{H g:Hp}{G h h':Heap}{Z S:cV}(u:Un l [] H g G h)(x:zg8)(z:∀b∈Z,aI G b=nO)(q:∀b∈S,b∈l\/aI G b=nO):Un l [] H g G h' where
 keep:=λb o e n c a=>x.keep b o (u.keep b o e n c a) (λm=>jz1) λm=>by
  rcases q b m with r|r
  ·exact c r
  ·show bT r e
 slot:=λb o e n c a=>by
  obtain⟨j,f⟩:=u.slot b o e n c a;obtain⟨d,i⟩:=x.slot b _ f λm=>jz1
  show lL d i
 free:=u.free
 there:=λb o e a=>let⟨_,f⟩:=u.there b o e a;x.there b _ f
 tups:=u.tups
 frzs:=u.frzs
 tbls:=u.tbls
theorem QaM{P:Program}{w:World}{H:Hp}{h h':Heap}{Z S:cV}{a C:Addr}{dd:dW}(ok:lB)(x:zg8)(z:∀b∈Z,b=a\/gM)(q:∀b∈S,gM)
  (g:H a=sO kK) (new:∃o vs,aI h' a=sO o/\o.cls=aG C/\o.dict=dd/\o.data=nD):HOk P w H h':=λb o e=>by
 show xX f
 ·subst f;show bT g e;obtain⟨o,vs,i,j⟩:=new;exact⟨⟨o,vs,i,j⟩,iI o i,λn l ⟨o,vs,f1,f2⟩ k=>⟨o,vs,k _ f1,f2⟩⟩
 ·refine(ok b o e).stay (λc u d r=>x.keep c u r ?_ ?_) P0 (gL q)
  ·intro m
   show PH d
   ·rcases z c m with r|r
    ·exact f r
    ·show bT r e
   ·rcases z c m with r|r
    ·subst r;show bT g d
    ·show bT r d
  ·intro m
   show PH d
   ·rw[q c m]at e;cases e
   ·rw[q c m]at d;cases d
section
variable{M:Model}{A:Around}{E:bI}{s:Shared}{env:Env}{outer:fT}{base:Heap}{L a:Addr}{oe:Obj}{vs:dC}
theorem Qae{head:Value}{c:Bool}{Q:Unit->cS}(p:A.frames=sO lA)(y:s.heap.FunFrames base lA)(H:By)
  (B:bK a=sO oe) (hd:oe.data=nD) (hsz:1<vs.size)
  (h:∀h' T w u,zA2->aI h' T=sO w->w.data=Av u->u[3]?=sO u0->aI h' a=sO (oe.mapFields (·.setIfInBounds 1 (aC T))) ->
   Sm [a] (frs lA) s.heap h'->mQ) :
  wpAny M A (do let f <-frameOf env;let pl <-entryPlaceOf L c;let b <-EntryCells.newEntry head f .none u0 .none pl;setField (aC a) 1 b) Q E s:=by
 have i:a∉(env::outer).filterMap (·.frame):=λG=>by
  obtain⟨_,o,x,j⟩:=y.mem G;show bT B x;exact j vs hd
 refine Na (wpAny_frameOf_fun p y H λd g1=>Na (wpAny_entryPlaceOf λpl g=>?_));unfold EntryCells.newEntry newFields;refine Na (Eh ?_ (g.sizeOk5 _ _ _ _ _));have D:aI d a=sO oe:=(g1.2.1 a i).trans B;have r:=Nq (h:=d) { cls:=.type "traceback",dict:=nO,data:=.fields ([head,aG L,.none,oR L,.none]++(if pl.isEmpty then List.replicate 6 Value.none else pl)).toArray } D;refine ED r hd hsz ?_;have l:d.objs.size≠a:=DP (ND D);have F:=Ei hd (·.setIfInBounds 1 (Value.ref d.objs.size))
 refine h _ d.objs.size _ _ (by rw[g1.1];exact Ny _) ((N3 _ _ (EB l)).trans (NF d rfl)) rfl
  (by first|(simp;done)|(rcases g with rfl|⟨_,_,_,_,_,_,_,rfl⟩<;>simp)) (N2 _ r (EX F)) ⟨λb o e n m=>?_,fC b o e n,aP b o e⟩
 ·rw[N3 _ _ (l6 n)];exact Nq _ ((g1.2.1 b m).trans e)
 ·obtain⟨v,t⟩:=g1.2.2 b o e;exact⟨v,by rw[N3 _ _ (l6 n)];exact Nq _ t⟩
 ·show xX C
  ·subst C;exact⟨_,N2 _ r (EX F)⟩
  ·obtain⟨v,t⟩:=g1.2.2 b o e;exact⟨_,by rw[Ca C];exact Nq _ t⟩
theorem Qd1{T:Addr}{l:Obj}{j:dC}{Q:Unit->cS}(t:bK a=sO oe)(hd:oe.data=nD)(h1:vs[1]?=sO (aC T))
  (m:bK T=sO l) (c:l.data=Av j) (p:3<j.size)
  (h:∀h' g d,(∀b,b≠T->aI h' b=bK b)->aI h' T=sO g->g.data=Av d->d[3]?=sO .none->Sm [T] [] s.heap h'->mQ) :
  wpAny M A (setFlight (aC a) nO) Q E s:=by
 have ot:∀b,b≠T->(s.heap.update T (Obj.mapFields (·.setIfInBounds 3 ((nO:dW).elim Value.none λf=>oR f)))).get? b=bK b:=λb i=>Ca i;have r:=N2 (Obj.mapFields (·.setIfInBounds 3 ((nO:dW).elim Value.none λf=>oR f))) m (EX (Ei c _));unfold setFlight;refine Na (Es t hd h1 ?_);rw[if_pos (show(eK T != Value.none)=true from aY)];refine ED m c p (h _ _ _ ot r (Ei c _) (kS p) (Sm.of (λb o e n=>(ot b (l6 n)).trans e) (aP b o e)))
 by_cases i:b=T
 ·subst i;show kU r
 show zF4 i
#print "-"
structure Fly(P:Program)(w:World)(l:fT)(H:Hp)(G:Heap)(a C:Addr)(dd:dW)(fl:Value)(H':Hp)(h:Heap):Prop where
 un:Un (frs l) [] H H' G h
 hok:HOk P w H' h
 obj:H' a=sO kK
 new:aI G a=nO
 tr:∃oe vs T oT ts,aI h a=sO oe/\oe.cls=aG C/\oe.dict=dd/\oe.data=nD/\vs[1]?=sO (aC T)/\aI G T=nO/\H' T=nO/\T≠a/\aI h T=sO oT/\oT.data=.fields ts/\ts[3]?=sO fl
theorem mf_cls{o:Obj}{f:dC->dC}:(o.mapFields f).cls=o.cls:=by show hZ c d a b o;cases a<;>rfl
theorem mf_dict{o:Obj}{f:dC->dC}:(o.mapFields f).dict=o.dict:=by show hZ c d a b o;cases a<;>rfl
section
variable{M:Model}{A:Around}{E:bI}{s:Shared}{env:Env}{l outer:fT}{base G:Heap}{L a C:Addr}{dd:dW}{P:Program}{w:World}{H H':Hp}
theorem G5{O:Value}{Q:Unit->cS}(F:Fly P w l H G a C dd O H' s.heap)(h:∀h',Fly P w l H G a C dd .none H' h'->mQ):wpAny M A (setFlight (aC a) nO) Q E s:=by
 obtain⟨un,f,obj,new,r,o,T,S,B,n,z,y,i,x,v,u,g,R,m,j⟩:=F;have N:3<B.size:=rR j
 refine Qd1 n i x R m N λh' e d t J I D p=>h h' ⟨Qep un p jf9 (λb c=>gG c),
  QaM f p (λb c=>by simp at c;rw[c];exact gY u) (λb c=>gG c) obj ⟨r,o,SU,z,y,i⟩,obj,new,
  r,o,T,e,d,SU,z,y,i,x,v,u,g,J,I,D⟩
theorem Qi9{Q:Unit->cS}(F:Fly P w l H G a C dd .none H' s.heap)(v:A.frames=sO lA)(hl:s.heap.FunFrames base lA)(X:By)
  (Y:∀b∈frs lA,(b∈frs l\/aI G b=nO)/\H' b=nO)
  (h:∀h',Fly P w l H G a C dd u0 H' h'->mQ):wpAny M A (noteFrame (aC a) env) Q E s:=by
 obtain⟨un,j,obj,new,oe,J,T,oT,N,I,e2,Z,D,B,e6,e7,e8,p,d,m⟩:=F;show zu1 X I D B;rw[if_pos (show(eK T != Value.none)=true from aY)];refine Na (Es p d m ?_);rw[if_neg (show¬((Value.none==oR L)=true)from by simp[rawInt])];have h3:3<N.size:=rR m;refine Na (ED p d h3 ?_);have ot:∀b,b≠T->(s.heap.update T (Obj.mapFields (·.setIfInBounds 3 Value.none))).get? b=bK b:=λb c=>Ca c;have eT:=N2 (Obj.mapFields (·.setIfInBounds 3 Value.none)) p (EX (Ei d _))
 have ths:∀b o,bK b=sO o->∃R,(s.heap.update T (Obj.mapFields (·.setIfInBounds 3 Value.none))).get? b=sO R:=λb o e=>by
  by_cases c:b=T
  ·subst c;exact⟨_,eT⟩
  show zF4 c
 have nT:∀b o,bK b=sO o->(∀J,o.data≠Av J)->b≠T:=λb o c i q=>by
  rw[q,p]at c;cases c;exact i N d
 refine Qae (s:={ s with heap:=_ }) v (hl.of_keeps λb o c i=>⟨o,(ot b (nT b o c i)).trans c,rfl⟩) X ((ot a (EB e8)).trans I) D (rR B) λh' f t r k1 k2 k3 k4 U k6=>?_;have O:Sm [a,T] (frs lA) s.heap h':=(Sm.of (λb o e n=>(ot b (l6 n)).trans e) ths).trans (k6.mono (zx6 c))
 have S:s.heap.objs.size<=f:=by
  have q:(s.heap.update T (Obj.mapFields (·.setIfInBounds 3 Value.none))).objs.size=s.heap.objs.size:=Heap.size_after_update ..;rw[<-q];exact k1
 have g:bK f=nO:=Dl S
 have y:aI G f=nO:=by
  cases q:aI G f with
  |none=>rfl
  |some o=>obtain⟨R,z⟩:=un.there f o q aF;show bT g z
 show zq1 x f j S d5 D;have u:f≠a:=λq=>BD q I g
 exact h h' ⟨Qep un O (λb c=>by simp at c;rcases c with rfl|rfl<;>assumption) (pH c Y),
  QaM j O (λb c=>by simp at c;show BZ c;exact uG;exact gY e7) (λb c=>(Y b c).2) obj ⟨_,_,U,C5 e2,BN Z,d5⟩,obj,new,
  _,_,f,t,r,U,C5 e2,BN Z,d5,by simp[rR B],y,x,u,k2,k3,k4⟩
theorem QgZ{g:Obj}{vs:dC}{Q:Unit->cS}(un:jr0)(f:Pb H' s)(obj:H' a=sO kK)(new:aI G a=nO)
  (x:bK a=sO g) (O:g.cls=aG C) (N:g.dict=dd) (v:g.data=nD) (u:zK4)
  (n:A.frames=sO lA) (X:s.heap.FunFrames base lA) (I:By)
  (J:∀b∈frs lA,(b∈frs l\/aI G b=nO)/\H' b=nO)
  (h:∀h',Fly P w l H G a C dd .none H' h'->mQ):wpAny M A (leaving env (aC a)) Q E s:=by
 unfold leaving noteFrame;simp only[I];refine Na (Na (Es x v u ?_));rw[if_neg aA];refine Qae n X I x v (rR u) λh' d j i B U T S D y=>?_;have e:bK d=nO:=Dl B
 have t:aI G d=nO:=by
  cases q:aI G d with
  |none=>rfl
  |some o=>obtain⟨Y,z⟩:=un.there d o q aF;show bT e z
 show zq1 p d f B R v;have m:d≠a:=λq=>BD q x e
 exact G5 (s:={ s with heap:=h' }) ⟨Qep un y je3 (pH c J),
  QaM f y (λb c=>by simp at c;exact dU c) (λb c=>(J b c).2) obj ⟨_,_,D,C5 O,BN N,R⟩,obj,new,
  _,_,d,j,i,D,C5 O,BN N,R,by simp[rR u],t,p,m,U,T,S⟩ λr F=>h r F
#print "-"
open PySem.W
noncomputable def vT:aZ:=zV4
noncomputable def QhE:aZ->Bool
 |xQ::r=>QhE r
 |l=>l==vT
structure XC(K:Nd)(C:Addr):Prop where
 ga:findIn K (aC C) "__getattribute__"=zY7
 gn:findIn K (aC C) "__getattr__"=sO nO
 cl:findIn K (aC C) "__class__"=sO (sO qB)
 mo:mroIn K C TF=hQ
 mb:mroIn K C AY=hQ
 hd:hasDictIn K C=true
 tt:typeIn K (aC C)=sO oE
 ov:jg5=true
 sa:findIn K (aC C) "__setattr__"=zq0
 cg:specialIn K qB "__get__"=sO (sO RJ)
 ct:takesIn K qB=hQ
section
variable{prog:Program}{w:World}{A:Around}{E:bI}{s:Shared}{K:Nd}{a C:Addr}{oe:Obj}{od:Option Obj}{name:Str}
theorem Qqp:builtinKind "BaseException.__getattribute__"=sO .slot:=fW
theorem Qrg:splitId "BaseException.__getattribute__"=sO ("BaseException","__getattribute__"):=fW
theorem Qm2{M:Model}{b:Value}{Q:Unit->cS}(X:r4)(I:Sv)(c:nR)(e:Q () s):wpAny M A (checkBuiltinCall "BaseException.__getattribute__" ⟨eK a::[b],[]⟩) Q E s:=
 by
 have L1:Looks M s.heap (isInstance (aC a) AY) true:=(I.type (M:=M)).andThen (looks_mroIn X c.mb);have h:=F.args_bexc_ga (aC a) b;show oC f t;simp only[checkBuiltinCall,Qqp,Qrg];refine Na (L1.at ?_)
 repeat wp_step
 exact e
theorem Qoc{tk:Tok}{fill expr:Bool}{Q:bI}(X:r4)(I:Sv)(c:nR)
  (h:∀(A:Around),wpAny aX A (Builtin.«object.__getattribute__» ⟨[aG a,.str name tk],[]⟩) (λfin e=>match fin with|.done (.ret v)=>handedIn v=true/\Q v e|_=>False) mW s) :
  wpAny aX A (getAttrBy (aC a) (.str name tk) fill expr) Q E s:=by
 show oC m t;have L0:=I.type (M:=BQ);have L1:=looks_findIn (M:=BQ) X c.ga;have L2:=looks_findIn (M:=BQ) X c.gn;have n:=Yax.ga.bind (aC a);have l:(expr&&onTheHeap (Value.builtin "BaseException.__getattribute__"))=false:=by cases expr<;>rfl
 have b:(ja5==je4)=false:=fW
 have j:(onTheHeap (Ad C)&&ja5==je4)=false:=u8 b
 repeat (any_goals (first|assumption|show mT L0|show mT L1|show mT L2|wp_step))
 refine FE Yax.ga.plain F.entry_bexc_ga (Qm2 X I c (NZ (h _) (λfin e z=>?_) (kL z)))
 rcases fin with(_|_|_|v)|_
 ·show iH z
 ·show iH z
 ·show iH z
 ·show fV i f z;show wpAny _ _ (handedOut v) _ _ _;rw[handedOut_of i];exact Nj f
 ·show iH z
theorem QlI{expr:Bool}{v:Value}{Q:bI}(X:r4)(I:Sv)(c:nR)(f:findObj K C od name=sO (.value v))(b:handedIn v=true)(h:Q v { s with toks:=hJ }) :
  wpAny aX A (getAttr (aC a) name expr) Q E s:=by
 show oC e t;unfold getAttr;refine Na (wpAny_mkText (Qoc (s:={ (⟨e,g,d,t,os⟩:Shared)with toks:=t+1 }) X I c (fX A)));show zT4 f;exact Nj (iI b h)
theorem Qja{Q:jS->cS}(X:r4)(I:Sv)(c:nR)(h:Q (sO (aC C)) { s with toks:=hJ }):wpAny aX A (getAttr? (aC a) "__class__") Q E s:=by
 show oC b t
 have e:findObj K C od "__class__"=sO (.bind RJ qB):=by
  obtain⟨cd,f,_⟩:=BH;unfold findObj;rw[f,Ni,c.cl,Ni];simp[c.cg,c.ct]
 unfold getAttr? getAttrBy?;refine Na (wpAny_mkText (Na (FK (Qoc (s:=⟨b,g,d,t+1,os⟩) X I c (fX A)))));show zT4 e;refine Na (ER (Ic (class_get (s:=⟨b,g,d,t+1,os⟩) X I c.mo ?_)));exact Nj ⟨rfl,Nj h⟩
theorem QcW{K:Nd}{a C:Addr}(c:nR):KitX K (aC a) (aC C) (λh=>∃oe od,InstAt h a oe C od) where
 ty:=λ_ _ _ ⟨_,_,I⟩=>I.type
 it:=λ_ _ X _=>by
  obtain⟨i,b,_⟩:=BH;show TR b
  ·rename_i p o j d g;intro y v x t k q;show jd2 g
  ·cases b
 ne:=λh l u m n r X f=>by
  obtain⟨i,b,_⟩:=BH;refine Bool.eq_false_iff.mpr (fX q);have e:C=l:=Value.ref.inj (beq_iff_eq.mp q);subst e;show TR b
  ·rename_i p o j d g;have z:=(X _ _ g).symm.trans f;cases z
  ·cases b
 ca:=λX ⟨_,_,I⟩ k=>Qja X I c k
#print "-"
open Builtin Builtin.ObjectAttr
theorem QcS(self:Value):∀{l:aZ},QhE l=true->refuseLoop self "__setattr__" l=CW
 |[],e=>fN e
 |aG c::r,e=>by rw[refuseLoop_ref];exact QcS self (l:=r) e
 |Al::r,e=>by
  have q:(Al::r:aZ)=vT:=beq_iff_eq.mp e;rw[q];show refuseLoop self "__setattr__" zV4=CW
  kernel_rfl
section
variable{prog:Program}{w:World}{A:Around}{E:bI}{s:Shared}{K:Nd}{a C:Addr}{oe:Obj}{vs:dC}{name:Str}{v:Value}
theorem Qog{Q:Unit->cS}(X:r4)(c:nR)(l:bK a=sO oe)(z:oe.cls=aG C)(d:oe.dict=nO)(hd:oe.data=nD)(O:findIn K (aC C) name=sO nO)
  (h:∀h' B,s.heap.objs.size<=B->aI h' a=sO { oe with dict:=sO B }->h'.Ns1 B (λy=>if y=name then sO v else nO)->(∀b o,b≠a->bK b=sO o->aI h' b=sO o) ->
   Q () { s with heap:=h',toks:=s.toks+2 }):wpAny aX A (setAttr (aC a) name v) Q E s:=by
 have I:InstAt s.heap a oe C nO:=⟨l,z,by unfold notCls;rw[hd],by rw[d];trivial⟩
 refine set_plain X I c.sa ?_;have SF:=PySem.F.store_object;obtain⟨cd,u,S⟩:=any_some c.ov;have G:InstAt ({ s with toks:=hJ }:Shared).heap a oe C nO:=I;have D:K.In ({ s with toks:=hJ }:Shared).heap:=X;generalize n:({ s with toks:=hJ }:Shared)=m at *;have sub:Looks aX m.heap (isInstance (aC a) TF) true:=G.type.andThen (looks_mroIn D c.mo);refine FE SF.slot.plain SF.entry (@check_slot aX _ _ m "object.__setattr__" "object" "__setattr__" (aC a) [.str name s.toks,v] [] _ SF.kind SF.split sub (SF.args (aC a) (.str name s.toks) v) ?_);have T:Looks aX m.heap (mroOf (aC C)) cd.mro:=(looks_clsIn D u).andThen .now;rw[osa_eq,refuse_eq];refine Na (Na (G.type.here (Na (T.here ?_))));rw[QcS _ S];refine Nj (Na (G.type.here (Na ((looks_findIn D O).here (Na f6)))));subst n;obtain⟨ab,j,r⟩:=BH;obtain⟨oc,J,N,f⟩:=oe;dsimp only at z d hd;subst z d hd;unfold storeInOwnDict;refine Na f6;dsimp only;rw[if_neg aF];have L:=looks_clsIn (M:=BQ) X j;unfold ownDictForStores instanceDict;refine Na (Na (Oy (s:={ s with toks:=hJ }) l (Na (L.here (s:={ s with toks:=hJ }) ?_))));rw[r];have H:(s.heap.push { cls:=wE,data:=A7 }).get? a=sO ⟨aG C,nO,nD,f⟩:=Nq _ l;have ne:s.heap.objs.size≠a:=DP (ND l);refine Na (wpAny_alloc (Na (wpAny_update (s:={ s with heap:=s.heap.push { cls:=wE,data:=A7 },toks:=hJ }) H (Nj (a:=zB5) ?_))));have e2:((s.heap.push { cls:=wE,data:=A7 }).update a zp7).get? a=sO ⟨aG C,zB5,nD,f⟩:=N2 _ H rfl
 have e3:((s.heap.push { cls:=wE,data:=A7 }).update a zp7).get? s.heap.objs.size=sO { cls:=wE,data:=A7 }:=
  (N3 _ _ (EB ne)).trans (NF s.heap rfl)
 have P:((s.heap.push { cls:=wE,data:=A7 }).update a zp7).Ns1 s.heap.objs.size (λ_=>nO):=
  Heap.Ns1.of_empty ⟨_,#[],_,e3,rfl,(λe U=>absurd U aF),d7⟩
 unfold storeInDict;refine Na (Nj (Na (wpAny_nsSet1 (s:={ s with heap:=_,toks:=hJ }) P (aP h' i g))));obtain⟨oD,Z,aa,p,t,x⟩:=i.count (PySem.Within.cons name v (ns:=[]) (λy R=>nE R));refine Na (wpAny_lookBehind p (by rw[t];exact pastItsLine_dict (Ng x (by show 1<=sizeLine+1;decide))) ?_);refine Nj (h h' s.heap.objs.size cO ((g.2 _ (EB ne)).trans e2) i λb o Y e=>(g.2 b (NY nP)).trans ?_);rw[Ca Y];exact k8
#print "-"
noncomputable def XN(a C:Addr)(dd:dW):HO:=.ext λh=>∃b t,aI h a=sO ⟨aG C,dd,.fields #[aG t,.none,.none,.none,pE,.none],b⟩
theorem QhP{P:Program}{w:World}{H:Hp}{h:Heap}{a C:Addr}{dd:dW}{b:oZ}{t:Addr}(e:aI h a=sO ⟨aG C,dd,.fields #[aG t,.none,.none,.none,pE,.none],b⟩):ObjOk P w H h a zO:=
 ⟨⟨b,t,e⟩,xW e,λ_ _ ⟨b,t,f⟩ k=>⟨b,t,k _ f⟩⟩
theorem Qcm{P:Program}{w:World}{H:Hp}{h:Heap}{a C:Addr}{dd:dW}(ok:lB)(e:H a=sO zO):∃b t,aI h a=sO ⟨aG C,dd,.fields #[aG t,.none,.none,.none,pE,.none],b⟩:=(ok a _ e).1
theorem QgR{P:Program}{w:World}{H:Hp}{h:Heap}{a C:Addr}{dd:dW}(ok:lB)(e:H a=sO kK):∃o vs,aI h a=sO o/\o.cls=aG C/\o.dict=dd/\o.data=nD:=(ok a _ e).1
section
variable{prog:Program}{w:World}{A:Around}{E:bI}{s:Shared}{K:Nd}{a C t:Addr}{sl:oZ}{dd:dW}{u:Value}
theorem QkS{Q:bI}(X:r4)(c:nR)(x:mroIn K C oY=hQ)(p:bK a=sO ⟨aG C,dd,.fields #[aG t,.none,.none,.none,pE,.none],sl⟩)
  (h:∀h' t',aI h' a=sO ⟨aG C,dd,.fields #[aG t',.none,.none,.none,pE,.none],sl⟩->(∀b o,b≠a->bK b=sO o->aI h' b=sO o)->Q .none { s with heap:=h' }) :
  wpAny aX A (call He [aG a,u]) Q E s:=by
 show oC f n;have F:=FL;have L0:Looks aX f (typeOf (aC a)) (aC C):=jn8 p;have L1:Looks aX f (isSubtype (aC C) oY) true:=looks_mroIn X x;have j:=F.noStar
 obtain⟨v,dl,cd,i,r⟩:∃v dl cd i,aI f C=sO ⟨v,dl,.cls cd,i⟩:=by
  obtain⟨cd,l,_⟩:=BH;show TR l
  ·rename_i z;exact⟨_,_,_,_,X _ _ z⟩
  ·cases l
 refine Ic (FE F.init.plain F.initEntry ?_)
 have m:∀(A:Around) (Q:Unit->cS) (E:bI),Q () (Rg f n)->wpAny aX A (checkBuiltinCall "ValueError.__init__" ⟨aG a::[u],[]⟩) Q E (Rg f n):=λA Q E y=>by
  simp only[checkBuiltinCall,F.initKind,F.initSplit,F.initRow]
  repeat (first|show mT L0|show mT L1|show HF r|with_reducible refine wpAny_load r ?_|wp_step)
  exact y
 refine m _ _ _ ?_
 wp_walk
 refine h _ (f.objs.size) ?_ (fC b o B e)
 ·rw[N2 _ (Nq _ p) rfl];rfl
 ·rw[Ca B];exact k8
variable{N fI:Addr}{nm q:Str}{bs bm:aZ}{hdct:Bool}{sn:aD}{sub:aZ}{ab:Bool}{col:Option Bool}{dc:dW}{k0 k1 k2 k3 k5:jS}{oI:Obj}{mN:c'}{rest:aZ}
theorem QkH{Q:Fin->cS}{h:Heap}{g:Mc}{d:Drawn}{t:Nat}{os:OsState}(T:OwnTail h vT bm)(m:aI h C=sO (excClassObj nm q C N bs bm hdct sn sub ab col dc k0 k1 k2 k3 k5 "ValueError.__new__"))(G:h.Ns N mN)(hi:zR5=sO Pn)
  (v:h.get? fI=sO oI) (p:oI.cls=Bl)
  (D:∀h' e,Heap.MadeExcOf h h' e (aC C) rest->h.objs.size<=e->wpAny aX A (call Pn (aG e::rest)) (λr z=>r=.none/\Q (.done (.ret (aC e))) z) E (Rg h' t)) (f:rest.length<=sizeLine) :
  wpAny aX A (Builtin.«type.__call__» ⟨aG C::rest,[]⟩) Q E (Rg h t):=by
 have F:=FL
 repeat (first|show HF m|with_reducible refine wpAny_madeBy_exc m ?_|wp_step)
 refine codeAny_call_builtin_code (F0 _ F.quiet) (wpAny_check_new_subT F T m (codeAny_exc_new_subT F T m ?_ f));show wpAny _ _ _ _ _ _
 have i:∀b o,aI h b=sO o->((h.push { cls:=jO,data:=.seq rest.toArray }).push { cls:=aG C,data:=zn2 }).get? b=sO o:=
  λb o e=>Ph e
 have l:=i _ _ m;have j:=i _ _ v;have I:=T.keeps i;have n:=Heap.Ns.keeps G i
 have c:((h.push { cls:=jO,data:=.seq rest.toArray }).push { cls:=aG C,data:=zn2 }).get? (h.objs.size+1) =
   sO { cls:=aG C,data:=zn2 }:=by heap_get
 have y:(eK C::bm).contains (aC C)=true:=aY
 unfold isInstance
 repeat (first|show HF c|(with_reducible refine wpAny_isSubtype_exc l ?_;rw[y])|wp_step)
 show wpAny _ _ (typeLookup (aC C) _) _ _ _;refine wpAny_typeLookup_tail l n I F.mroIs F.init.lookup ?_;rw[hi];refine ER (Na ?_);unfold bindSpecial;refine Na (FX (T:="function") ⟨_,j,p⟩ ?_);rw[if_pos aA];refine Nj (Na (NZ (D _ (h.objs.size+1) ⟨i,Dl (IA _),h.objs.size,c,Dl cO,Nq _ (Heap.get?_push_at rfl rfl)⟩ (IA _)) (jJ r z B) (gL x)));show uD H B
 wp_walk
 exact H
theorem Qk6{Q:bI}(T:OwnTail s.heap vT bm)(c:bK C=sO (excClassObj nm q C N bs bm hdct sn sub ab col dc k0 k1 k2 k3 k5 "ValueError.__new__"))(n:s.heap.Ns N mN)(hi:zR5=sO Pn)
  (i:s.heap.get? fI=sO oI) (f:oI.cls=Bl)
  (m:∀h' e,Heap.MadeExcOf s.heap h' e (aC C) rest->s.heap.objs.size<=e ->
   wpAny aX (A.under (.builtin "type.__call__" ⟨aG C::rest,[]⟩)) (call Pn (aG e::rest)) (λr j=>r=.none/\Q (aC e) j) E { s with heap:=h' }) (b:rest.length<=sizeLine) :
  wpAny aX A (call (aC C) rest) Q E s:=by
 show oC h t;have f1:=tc_lookup;have f2:=tc_bind (aC C);have p:(⟨h,g,d,t,os⟩:Shared).TypeIs (aC C) "type":=gH c
 refine Ic (L8 ?_);show wpAny _ _ (callAny (aC C) _) _ _ _
 repeat (any_goals (first|assumption|show HF c|wp_step))
 refine⟨rfl,codeAny_call_builtin_at (F0 _ bB) entry_typeCall (wpAny_check_type_call_sub c (QkH T c n hi i f (λh' e o l=>?_) b))⟩;exact m h' e o l
#print "-"
def XD(H:Hp)(dd:dW)(fs:pC):Prop:=match dd with
 |none=>fs=[]
 |gA a=>H a=sO (.xd fs)
theorem QgH{P:Program}{w:World}{H:Hp}{h:Heap}{a C:Addr}{dd:dW}{fs:pC}(ok:lB)(e:H a=sO kK)(d:zi9):∃l b,InstAt h a l C b:=by
 obtain⟨o,m,i,g,f,c⟩:=QgR ok e;cases dd with
 |none=>exact⟨o,nO,i,g,zD2 c,by rw[f];trivial⟩
 |some j=>
  obtain⟨n,⟨b,p,r,f1,_⟩,_⟩:=(ok j _ d:ObjOk P w H h j (.xd fs))
  exact⟨o,sO b,i,g,zD2 c,qY f f1⟩
theorem Qjd:handedIn He=true:=fW
noncomputable def vOf:V->Value
 |aG a=>aG a
 |.ty n=>Al
 |_=>.none
section
variable{X:Cx}{e:Expr}{ta:TE}{f:Str}{pos:Pos}
theorem Qbf:CallR X Hr (λxs H Q=>∃a C dd fs c b,xs=[aG a,c]/\RelV c (vOf c)/\H a=sO kK/\zi9/\Ag/\kitOne X.K (aC C) (vOf c)=sO b/\Q pP H):=by
 intro j s v H xs w Q I r h;obtain⟨a,C,dd,fs,c,b,rfl,d,p,hd,l,k,q⟩:=h;obtain⟨m,i,rfl,o,g⟩:=Qaw r;obtain rfl:m=aG a:=o
 have u:i=vOf c:=by
  cases c with
  |ref _=>exact g
  |ty _=>exact g
  |non=>cases(zH4 i g);rfl
  |bl _=>exact nomatch (show vOf (.bl _)=Value.bool _ from d)
  |int _=>obtain⟨_,z⟩:=(show∃t,vOf (.int _)=Value.int _ t from d);show uO z
  |str _=>obtain⟨_,z⟩:=(show∃t,vOf (.str _)=Value.str _ t from d);show uO z
  |byt _=>obtain⟨_,z⟩:=(show∃t,vOf (.byt _)=Value.bytes _ t from d);show uO z
  |flt _=>obtain⟨_,z⟩:=(show∃t,vOf (.flt _)=Value.float _ t from d);show uO z
 subst u;exact kia_one (QcW l) I.kIn (QgH I.hok p hd) k i7 λn=>⟨.bl b,H,I.tok n,rfl,q⟩
theorem QmY(D:PE X e ta)(F:attributeBase e f X.env (iC e)=iX e:=by rfl) :
  PE X (.Attribute e f pos) (λσ H Q=>ta σ H λx b=>∃a C g fs v,x=aG a/\b a=sO (XO a C (sO g))/\b g=sO (.xd fs)/\Ag/\findIn X.K (aC C) f=sO nO/\fs.lookup f=sO v/\Q v b):=by
 show cZ d σ Q;refine QlL F (thn (eW D d σ) (aP u j p));obtain⟨x,b,I1,r,a,C,g,fs,v,ex,L,G,c,n,l,q⟩:=p;subst ex;obtain rfl:u=eK a:=r;obtain⟨o,R,P,O,N,M⟩:=QgR I1.hok L;obtain⟨z,y,t⟩:=(I1.hok g _ G:ObjOk X.prog X.w b j.heap g (.xd fs))
 obtain⟨i,f1,f2⟩:=Qaq y;obtain⟨u,A,m⟩:=RelO.some_of (v:=v) (o:=z f) (by rw[<-l];exact t f);have J:InstAt j.heap a o C (sO i):=⟨P,O,zD2 M,qY N f1⟩
 have B:findObj X.K C (sO i) f=sO (.value u):=by
  obtain⟨cd,E,hd⟩:=BH;unfold findObj;rw[E,Ni,n,Ni];show((W.ownOf cd (sO i) f).bind _)=_;unfold W.ownOf;rw[hd,nC];show((lookIn f i).bind _)=_;rw[f2,A];rfl
 exact QlI I1.kIn J c B (Qgv m) ⟨v,b,I1.tok _,m,q⟩
def XI(prog:Program)(w:World)(K:Nd)(id:String):Prop:=∀(A:Around) (E:bI) (s:Shared) (a C t:Addr) (d:oZ) (g:dW) (u:Value) (Q:bI),r4->nR->mroIn K C oY=hQ ->
 bK a=sO ⟨aG C,g,.fields #[aG t,.none,.none,.none,pE,.none],d⟩ ->
 (∀c h,aI c a=sO ⟨aG C,g,.fields #[aG h,.none,.none,.none,pE,.none],d⟩->(∀b o,b≠a->bK b=sO o->aI c b=sO o)->Q .none { s with heap:=c }) ->
 wpAny aX A (call l9 [aG a,u]) Q E s
theorem QqU{prog:Program}{w:World}{K:Nd}:XI prog w K "ValueError.__init__":=λ_ _ _ _ _ _ _ _ _ _ X c b a h=>QkS X c b a h
theorem QiH{R:Addr}{x:Str}{d g:Expr}{t:TA}{p ap:Pos}{pl:Sem Bool}{id:String}(u:XI X.prog X.w X.K id)(n:handedIn l9=true)(Y:jI)(U:mH=sO (aC R))(v:specialIn X.K (aC R) "__getattribute__"=RD)
  (T:readsIn X.K R oE=true) (Z:findCls X.K (aC R) oE "__init__"=sO (.val l9)) (ha:PA X [d,g] t) (A:gB:=by decide)
  (l:starEach [d,g] X.env=(false,iX d)::Z' g:=by rfl) (m:(backTo pos (zM5 g)).any (·.1)=false:=by rfl)
  (S:eval zW4 X.env=(do
   let D <-eval (sA p) X.env
   standAt ap.atName
   let(f,first) <-holding [D] (getMethod D "__init__" pl)
   callWith pos f first (backTo pos (starEach [d,g] X.env)) (backToKw pos jx5)):=by rfl) :
  PE X zW4 (λσ H Q=>t σ H λvs i=>∃a C dd y,vs=[aG a,y]/\i a=sO zO/\Ag/\mroIn X.K C oY=hQ/\Q .non i):=by
 show cZ j σ Q;refine methodCall_KW (pl:=pl) (Yx I Y U (method_cls I.kIn v (cls_value I.kIn T Z n ?_)) A) S;refine Dg (thn (ha pos j _ σ H _ A3 h) λus M F=>?_) l m;obtain⟨vs,i,I1,r,a,C,dd,y,ev,B,c,O,q⟩:=F;subst ev;obtain⟨G,u2,rfl,N,r2⟩:=Qaw r;obtain rfl:G=aG a:=N;obtain⟨sl,t0,d⟩:=Qcm I1.hok B;refine u _ _ _ _ _ _ _ _ _ _ I1.kIn c O d λh' L E P=>⟨.non,i,?_,rfl,q⟩
 have J:=I1.write (x:=a) (e:=a) (o:=XN a C dd) (t':=M.toks) (zy1 B) fE P (xW E) (QhP E);rwa[show upd i a zO=i from by funext b;unfold upd;split;(rename_i z;rw[z,B]);rfl]at J
theorem QkZ{o value:Expr}{J G:TE}{l:Pos}(ho:PE X o J)(hv:PE X value G)(hs:swapsWith value (sO (.Attribute o f l)) pos.line X.env=oM:=by rfl) :
  PS X (.Assign [.Attribute o f l] value pos) (λD σ H=>G σ H λy F=>J σ F λx j=>∃a C,x=aG a/\j a=sO zf1/\Ag/\findIn X.K (aC C) f=sO nO /\
   ∀d,j d=nO->D.nx σ zZ5):=by
 show cZ m σ D;refine plainObj_wpAny_Assign_Attribute (thn (hv m s σ H _ I h) (aP u R E)) hs;show cA y F I1 S q E;refine thn (ho m R σ F _ I1 q) (aP Y L E);obtain⟨x,j,I2,T,a,C,ex,i,c,n,U⟩:=E;subst ex;obtain rfl:Y=eK a:=T;obtain⟨sl,t0,e1⟩:=Qcm I2.hok i;refine Qog I2.kIn c e1 rfl rfl rfl n (fB P d O N M A);have w:j d=nO:=I2.hok.fresh O;have Z:d≠a:=λz=>BD z i w
 have hx:∃o,aI P d=sO o:=let⟨o,_,_,e,_⟩:=M;⟨o,e⟩
 refine⟨σ,_,?_,U d w⟩
 have p:∀b,j b≠nO->b≠a->upd jv2 a (XN a C (sO d)) b=j b:=λb h1 h2=>by
  rw[QE h2,QE (λz=>h1 (tZ z w))]
 have un:Un X.fs [] j zZ5 L.heap P:=by
  refine⟨λb o e n _ _=>A b o (i5 z i n) e,λb o e n _ _=>⟨o.slots,A b o (i5 z i n) e⟩,λb o e n _=>?_,λb o e _=>?_,aP b Q e,fC b o u e,λb ps e=>?_⟩
  ·rw[QE (i5 z i n),QE (sL z)]
   ·exact n
   ·subst z;exact absurd nP (N7.mpr O)
  ·show xX z
   ·subst z;show kU N
   ·exact⟨o,A b o z e⟩
  ·rw[p b (jA e) (i5 z i e)];exact e
  ·rw[p b (jA e) (i5 z i e)];exact e
  ·exact⟨#[],by rw[p b (jA e) (i5 z i e)];show lJ e⟩
 refine I2.un (t':=L.toks+2) un (aP b o e)
 show xX t
 ·subst t;show zj9;exact QhP N
 ·rw[QE t]at e
  by_cases hd:b=d
  ·subst hd;show zj9;refine⟨_,M,fX g⟩;show RelO (List.lookup g [(f,y)]) (if g=f then sO u else nO)
   by_cases B:g=f
   ·rw[bW B,B];simp only[List.lookup,beq_self_eq_true];exact S
   ·have t:(g==f)=false:=SB B;rw[cR B];simp only[List.lookup,t];trivial
  ·rw[QE hd]at e;refine(I2.hok b o e).stay (λc v hc r=>A c v ?_ r) (mK c r) (aP c Q r)
   ·rintro rfl
    rcases hc with z|z
    ·exact t z.symm
    ·show bT i z
   ·rw[p c (jA r) (i5 z i r)];exact r
   ·rw[p c (jA r) (i5 z i r)];exact r
#print "-"
section
variable{prog:Program}{w:World}{A:Around}{E:bI}{s:Shared}{K:Nd}{env:Env}
theorem Qex{x:Pq}{Q:Flow->cS}(hh:jU)
  (h:wpAny aX A x (λv a=>∃e C dd j t,v=aG e/\K.In a.heap/\nR/\jF a e=sO ⟨aG C,dd,.fields #[aG t,.none,.none,.none,pE,.none],j⟩/\E (aC e) a) E s) :
  wpAny aX A (raiseStmt env (sO x) nO) Q E s:=by
 unfold raiseStmt;refine Na (NZ h (jJ v a b) (gL x));obtain⟨e,C,dd,j,t,rfl,X,c,i,l⟩:=b;obtain⟨f,g,d,m,os⟩:=a;dsimp only at X i;have L0:Looks aX f (typeOf (aC e)) (aC C):=jn8 i;have L1:Looks aX f (isSubtype (aC C) AY) true:=looks_mroIn X c.mb;have L2:Looks aX f (typeOf (aC C)) oE:=looks_typeIn X c.tt;have L3:Looks aX f (isInstance (aC e) AY) true:=L0.andThen L1;unfold excFromValue
 repeat (first|show mT L0|show mT L1|show mT L2|show mT L3|show HF i|wp_step)
 exact wpAny_raiseNew_none hh l
#print "-"
noncomputable def CXr(P:Program)(w:World):CXT:=λb H s E e c=>∃a C f d,e=aG a/\c.os=s.os/\zL c/\Fly P w b H s.heap a C f .none d c.heap/\E (aC C) pU d
theorem Qrc{l:cV}{H d:Hp}{G h:Heap}{a C:Addr}{dd:dW}(u:Un l [] H d G h)(c:d a=sO zO)(n:aI G a=nO):Un l [] H (upd d a kK) G h where
 keep:=u.keep
 slot:=u.slot
 free:=λb o e q z=>by rw[QE (i5 y n e)];exact u.free b o e q z
 there:=u.there
 tups:=λb f e=>by
  have q:=u.tups b f e;rw[QE (i5 y c q)];exact q
 frzs:=λb o x e=>by
  have q:=u.frzs b o x e;rw[QE (i5 y c q)];exact q
 tbls:=λb ps e=>by
  obtain⟨m,q⟩:=u.tbls b ps e;exact⟨m,by rw[QE (i5 y c q)];exact q⟩
theorem ObjOk.some{P:Program}{w:World}{H:Hp}{h:Heap}{a:Addr}{o:HO}(x:Bx o):∃ob,aI h a=sO ob:=by
 cases o with
 |lst b=>obtain⟨_,_,_,_,e⟩:=x;show kU e
 |tup b=>obtain⟨_,_,_,ob,e,_⟩:=x;exact⟨ob,e⟩
 |dK kvs=>show jh9
 |dT kvs=>show jh9
 |set S n=>obtain⟨ob,_,_,_,e,_⟩:=x;exact⟨ob,e⟩
 |ins C g fs=>obtain⟨_,_,_,e,_⟩:=x;show kU e
 |own _=>exact x
 |xd fs=>obtain⟨_,⟨ob,_,_,e,_⟩,_⟩:=x;exact⟨ob,e⟩
 |rng lo d=>show zW e x;show kU e
 |frz o u=>exact⟨o,x.1⟩
 |tbl ps=>show kU x
 |met f y=>show kU x
 |ext c=>exact x.2.1
theorem HOk.off{P:Program}{w:World}{H:Hp}{h:Heap}{a:Addr}(ok:lB)(n:aI h a=nO):H a=nO:=by
 cases e:H a with
 |none=>rfl
 |some o=>obtain⟨ob,q⟩:=(ok a o e).some;show bT n q
theorem Inv.laidX{X:Cx}{d:bP}{σ:St}{H:Hp}{s:Shared}{h':Heap}{a:Addr}{o:HO}{t':Nat}(I:cF d σ)(k:∀b u,bK b=sO u->aI h' b=sO u)(n:bK a=nO)(new:ObjOk X.prog X.w (lG a) h' a o) :
  Inv X d σ (lG a) { s with heap:=h',toks:=t' }:=by
 have i:=I.hok.off n;have f:∀b u,Ae->upd H a o b=sO u:=λb u e=>by rw[QE (i5 z i e)];exact e
 refine I.un ⟨λb q e _ _ _=>k b q e,jx1 q e,λb q e z _=>by rw[QE (i5 y n e)];exact z,λb q e _=>⟨q,k b q e⟩,λb h e=>f b _ e,λb q u e=>f b _ e,λb ps e=>⟨#[],by simpa using f b _ e⟩⟩ (aP b u e)
 show RL g a e
 ·rw[QE g]at e;exact(I.hok b u e).stay (λc v _ r=>k c v r) (λc r=>f c _ r) λc h r=>f c _ r
section
variable{P:Program}{w:World}{K:Nd}{mg:c'}{base:Heap}{N:aD}{qual:Str}{scope:Scope}{f:Addr}{cd:Value}{A:Around}{outer:fT}{s0:Shared}{H0:Hp}{E:XK}
noncomputable abbrev cxR(P:Program)(w:World)(K:Nd)(mg:c')(base:Heap)(N:aD)(qual:Str)(scope:Scope)(f:Addr)(cd:Value)(A:Around)(outer:fT)(s0:Shared)(H0:Hp)(E:XK):Cx:=
 Qg8 A4 P w K mg base N qual scope f cd A outer s0 H0 E
structure XM(K:Nd)(C:Addr)(ini:jS):Prop where
 obj:∃N nm q bs bm hdct sn sub ab col dd k0 k1 k2 k3 k5 mN,iF C=sO (excClassObj nm q C N bs bm hdct sn sub ab col dd k0 k1 k2 k3 k5 "ValueError.__new__")/\(∀h:Heap,nQ->OwnTail h vT bm)/\(∀h:Heap,nQ->h.Ns N mN)/\zR5=ini
 kp:keepIn K (aC C)=true
 xc:nR
variable{C:Addr}{x:Str}{np cpos pos:Pos}{e:Expr}{te:TA}
#print "-"
noncomputable abbrev Cx.hd(X:Cx)(a:Addr):Cx:={ X with A:=X.A.mark (sO (aC a)),calm:=false,xe:=wD }
theorem Inv.hd{X:Cx}{b:bP}{σ:St}{H:Hp}{s:Shared}(I:cF b σ)(a:Addr):Inv (X.hd a) b σ H s:=
 ⟨⟨I.ok.mod,I.ok.kind,I.ok.glob,I.ok.blt,I.ok.above,I.ok.inj,I.ok.has,I.ok.cab,(λz=>fN z),I.ok.frames,I.ok.stk,I.ok.exf,I.ok.bs,I.ok.bsz,I.ok.noex,I.ok.exfs,I.ok.funs,I.ok.frf⟩,I.os,I.bare,I.base,I.loc,I.cell,I.free,I.freeC,I.pin,I.hok,I.len⟩
theorem Inv.unhd{X:Cx}{b:bP}{σ:St}{H:Hp}{s:Shared}{a:Addr}(ok:X.Ok)(I:Inv (X.hd a) b σ H s):cF b σ:=
 ⟨ok,I.os,I.bare,I.base,I.loc,I.cell,I.free,I.freeC,I.pin,I.hok,I.len⟩
section
variable{prog:Program}{w:World}{A:Around}{E:bI}{s:Shared}{K:Nd}
theorem Qfj{M:Model}{h:Heap}{R:Addr}(X:nQ)(r:XC K R):Looks M h (isType (aC R)) true:=by
 obtain⟨c,a,_⟩:=any_some r.hd;show TR a
 ·rename_i b;intro g e f d k q;show jd2 b
 ·cases a
theorem QhD{e C R:Addr}{b:Obj}{Q:Bool->cS}(X:r4)(c:bK e=sO b)(j:b.cls=aG C)(r:XC K R)(i:mroIn K C (aC R)=hQ)(h:Q true s):wpAny aX A (excMatches (aC e) (aC R)) Q E s:=by
 show oC a l;dsimp only at X c;have L0:Looks aX a (typeOf (aC e)) (aC C):=j▸(Looks.ld c).andThen .now;have L1:Looks aX a (isSubtype (aC R) AY) true:=looks_mroIn X r.mb;have L2:Looks aX a (typeOf (aC R)) oE:=looks_typeIn X r.tt;have L3:Looks aX a (isSubtype (aC C) (aC R)) true:=looks_mroIn X i;have LR:Looks aX a (isType (aC R)) true:=Qfj X r;have f:=tc_notTuple;unfold excMatches
 repeat (first|show mT L0|show mT L1|show mT L2|show mT L3|with_reducible refine LR.at ?_|wp_step)
 exact h
#print "-"
theorem QeA{X:Cx}{a:bP}{σ:St}{H:Hp}{s:Shared}{A:Around}{E:bI}{i:Nat}{n:Str}{pos:Pos}{Q:Unit->cS}(I:cF a σ)(hN:X.N.Nodup)(hi:X.N[i]?=sO n)(Z:wH n=nI)
  (h:∀F,Inv X a (σ.set i nO) H F->Q () F):wpAny bZ A (do bindName X.env n .none;unbindBehindTheSuite X.env n pos) Q E s:=by
 obtain⟨m,U,Y⟩:=id I.loc;refine wpAny_nameGoes_keeps Z U (by rw[I.ok.kind];rfl) λh' v B f=>h _ ?_;have lo:∀b o,Ss->tD:=λb o e=>NY Ht;have x:i<σ.length:=jl1
 refine⟨I.ok,I.os,I.bare,⟨λb o e n D l=>(f.2 b (lo b o e)).trans (TM D l),fB b o e n D l,I.base.free,fC b o e l,I.base.tups,I.base.frzs,I.base.tbls⟩,⟨_,B,fB j y J g t e3⟩,aP y c e,I.free,I.freeC,bQ p T,aP b o e,zz1⟩
 ·obtain⟨M,g⟩:=TN D l;exact⟨M,jt0⟩
 ·show HB P g l;exact⟨P,jt0⟩
 ·by_cases C:j=i
  ·subst C;rw[EA x]at t;cases t
  ·rw[DD (EB C)]at t;obtain⟨L,O,q⟩:=Y j y J g t e3;show rW L O
   rcases q with⟨k,e⟩|⟨k,c,e,z⟩
   ·have R:y≠n:=λe=>C (GW hN g (e▸hi));exact .inl ⟨k,by simp[R,e]⟩
   ·exact .inr ⟨k,c,e,jv3⟩
 ·obtain⟨G,z⟩:=rT I y;exact⟨G,jv3⟩
 ·obtain⟨e,n,ne,S,d⟩:=I.pin p T;exact⟨(f.2 p.1 ne).trans e,n,ne,S,d⟩
 ·refine(I.hok b o e).stay (λc u hc r=>(f.2 c ?_).trans r) P0 (gL q)
  rintro rfl
  rcases hc with z|z
  ·rw[<-z,I.free]at e;cases e
  ·rw[I.free]at z;cases z
section
variable{X:Cx}{k:Nat}{f R:Addr}{fd:FuncData}{ps:aD}{sp:Sp}{fx rx n:Str}{p cpos epos rp hpos tpos:Pos}{e:Expr}{es:eE}{t:TA}{b₀:Stmt}{suite:jX}{i:Nat}{ts:Addr->TS}
theorem Qnq(F:FnOk X.prog X.w X.K X.mg X.base (CXr X.prog X.w) k f fd ps sp)(hr:Cc)(hg:Gl X fx)(hm:X.mg fx=sO (aC f))(hk:keepIn X.K (aC f)=true)(G:zC6)(ha:PA X.nox eO t)
  (aa:Gl X rx) (Y:X.mg rx=sO (aC R)) (xR:XC X.K R) (hN:X.N.Nodup) (hi:X.N[i]?=sO n) (Z:wH n=nI) (d:zw9/\zt9) (T:jf3)
  (ah:(fx==HU)=false:=by decide) (af:(rx==HU)=false:=by decide) (he:q5:=by rfl) (U:(backTo cpos qE).any (·.1)=false:=by rfl)
  (S:swapsWith (.Call zd5 eO [] cpos) nO epos.line X.env=oM:=by rfl) :
  PS X (.Try [.Expr (.Call zd5 eO [] cpos) epos] zW5 [] [] tpos) (λD σ H=>t σ H λvs H1=>sp vs H1 mW (λcls oa H2=>∀a C dd,cls=aG C->oa=sO a->H2 a=sO kK ->
   Ag/\mroIn X.K C (aC R)=hQ/\(ts a) { nx:=λO m=>D.nx (O.set i nO) m,rt:=wD } (σ.set i (sO (aC a))) H2)):=by
 show cZ c σ D;refine wpAny_Try_except (LF (thn (wpAny_Expr_any (Q:=wD) (EI (Yx I hg hm ?_ ah)) I.quiet S) (kL z)));refine callWith_K (h₀:=X.base) I.ok.mod.kin hk (NZ (ha cpos c s σ H _ P2 h) (jJ L s1 z0) (kL z)) he U;show zt7 H1 z0;have g:=I1.unwish;have E:(L++[]).length=ps.length:=by rw[E2,<-r.length];exact F.len _ _ _ _ q
 have bd:=G _ L g.kIn E;rw[E2]at bd;refine Ic (D1 (F.run X.A X.stack s1 H1 ⟨L,[]⟩ L vs _ _ hr g.env0 bd r q) λrr l y=>?_);cases rr with
 |ok fl=>
  cases fl with
  |ret u=>obtain⟨v,m,_,_,_,_,_,z⟩:=y;show iH z
  |next=>show iH y
  |brk=>show iH y
  |cont=>show iH y
 | error x=>
  obtain⟨a,C,dd,m,rfl,os,bare,j,hE⟩:=y;have J:=g.call' (ch:=[]) os j.un j.hok bare (λb z=>fN z);have ae:X.A.frames=sO (X.env::X.outer):=by rw[I.ok.frames,d.1]
  have ab:l.heap.FunFrames X.base (X.env::X.outer):=by rw[<-d.1];exact J.stack
  refine Qi9 j ae ab d.2 (mK b G) λh4 F4=>G5 (s:={ l with heap:=h4 }) F4 (bQ h5 F5)
  ·rw[<-d.1]at G;exact⟨dU G,J.stkFree b G⟩
  have J5:yN c σ m l h5:=g.call' (ch:=[]) os F5.un F5.hok bare (λb z=>fN z);have ai:=J5.hd a;obtain⟨xC,B,P⟩:=hE a C dd rfl rfl j.obj;refine wpAny_handleBy_cons (codeAny_handlers_test (Yx (X:=X.hd a) ai aa Y ?_ af)) (by intro q;cases q);obtain⟨o,al,g1,g2,g3,g4⟩:=QgR F5.hok F5.obj;refine QhD (s:={ l with heap:=h5 }) J5.kIn g1 g2 xR B ?_;refine codeAny_handlers_suite_as (G5 (s:={ l with heap:=h5 }) F5 (bQ h6 F6));have J6:yN c σ m l h6:=g.call' (ch:=[]) os F6.un F6.hok bare (λb z=>fN z);refine WN (X:=X.hd a) (v:=aG a) (J6.hd a) hN hi (iS Z) rfl (mK s7 I7) (.inr Z);refine NZ (T a c s7 _ m _ I7 P) (λfl s8 M=>?_) (kL z);cases fl with
  |next=>
   obtain⟨ak,H8,I8,q9⟩:=M;exact QeA (X:=X) (I8.unhd I.ok) hN hi Z λs9 I9=>⟨_,H8,I9,q9⟩
  |ret u=>obtain⟨_,_,_,_,_,z⟩:=M;show iH z
  |brk=>show zW z M;show iH z
  |cont=>show zW z M;show iH z
#print "-"
noncomputable def Qjj(e:DictEntry):Bool:=match e.key with|.str _ _=>true|_=>false
noncomputable def nsB(K:Nd)(N:Addr)(a:jS):Bool:=match iF N with
 |some ⟨_,_,.dict b _,_⟩=>b.toList.all Qjj&&((b.toList.find? (·.key.isStr "__init__")).map (·.val)==a)
 |_=>false
theorem Qni{K:Nd}{N:Addr}{f:jS}(e:nsB K N f=true):∃g:c',(∀h:Heap,nQ->h.Ns N g)/\g "__init__"=f:=by
 unfold nsB at e;split at e
 ·rename_i c d i n p l;obtain⟨o,m⟩:=IR.mp e;refine⟨nsFind i,λh X=>⟨_,i,n,X _ _ l,rfl,bQ x j,d7⟩,?_⟩
  ·have z:=NV.mp o x (Dm.mpr j);unfold Qjj at z;split at z
   ·rename_i a b q;exact⟨a,b,q⟩
   ·cases z
  ·have z:=beq_iff_eq.mp m;rw[<-z];unfold nsFind findBy;rw[<-Yac]
 ·cases e
noncomputable def QiZ(K:Nd):aZ->Bool
 | aG A::r=>(match iF A with
   |some ⟨_,_,.cls cd,_⟩=>nsB K cd.ns nO
   |_=>false)&&QiZ K r
 |l=>l==vT
theorem Qf8{K:Nd}:∀{l:aZ},QiZ K l=true->∀h:Heap,nQ->OwnTail h vT l
 |[],e,_,_=>fN e
 |aG A::r,e,h,X=>by
  unfold QiZ at e;obtain⟨a,f⟩:=IR.mp e;split at a
  ·rename_i d;obtain⟨g,c,b⟩:=Qni a;exact .own (X _ _ d) (c h X) b (Qf8 f h X)
  ·cases a
 |Al::r,e,_,_=>by
  have q:(Al::r:aZ)=vT:=beq_iff_eq.mp e;rw[q];exact .base
noncomputable def xmB(K:Nd)(C:Addr)(a:jS):Bool:=(match iF C with
 |some ⟨c,_,.cls cd,b⟩=>c==.type "type"&&b.toList.length==6&&b.toList[4]?==sO (sO (.builtin "ValueError.__new__"))&&cd.mro==aG C::cd.mro.tail&&!cd.hasDel&&QiZ K cd.mro.tail&&nsB K cd.ns a
 |_=>false)&&keepIn K (aC C)
theorem Qoy{K:Nd}{C:Addr}{a:jS}(e:xmB K C a=true)(x:nR):XM K C a:=by
 unfold xmB at e;obtain⟨f,G⟩:=IR.mp e;refine⟨?_,G,x⟩;split at f
 ·rename_i c d cd g B;simp only[NL,beq_iff_eq,Fp]at f;obtain⟨⟨⟨⟨⟨⟨rfl,E⟩,F⟩,l⟩,hd⟩,j⟩,D⟩:=f;obtain⟨z,y,w,v,u,A⟩:=six_places E F;obtain⟨g⟩:=g;obtain rfl:g=_:=A;obtain⟨t,n,s⟩:=Qni D;obtain⟨nm,bs,i,N,q,b,r,sub,H,m,o⟩:=cd;dsimp only at l hd j n;subst hd;generalize i.tail=p at l j;subst l;exact⟨N,nm,q,bs,p,b,r,sub,H,m,d,z,y,w,v,u,t,B,λh X=>Qf8 j h X,n,s⟩
 ·cases f
noncomputable def xcB(K:Nd)(C:Addr):Bool:=findIn K (aC C) "__getattribute__"==zY7&&findIn K (aC C) "__getattr__"==sO nO&&findIn K (aC C) "__class__"==sO (sO qB) &&
 mroIn K C TF==hQ&&mroIn K C AY==hQ&&hasDictIn K C&&typeIn K (aC C)==sO oE&&jg5&&findIn K (aC C) "__setattr__"==zq0 &&
 specialIn K qB "__get__"==sO (sO RJ)&&takesIn K qB==hQ
theorem Qpm{K:Nd}{C:Addr}(e:xcB K C=true):nR:=by
 unfold xcB at e;simp only[NL,beq_iff_eq]at e;obtain⟨⟨⟨⟨⟨⟨⟨⟨⟨⟨m,l⟩,j⟩,i⟩,h⟩,g⟩,f⟩,d⟩,c⟩,b⟩,a⟩:=e;exact⟨m,l,j,i,h,g,f,d,c,b,a⟩
noncomputable def QqG(K:Nd)(R:Addr)(a:cV):Bool:=xcB K R&&a.all (λc=>xcB K c&&mroIn K c (aC R)==hQ&&kitOne K (aC c) oY==hQ&&mroIn K c oY==hQ&&a.all λd=>kitOne K (aC c) (aC d)==sO (c==d)) &&
 specialIn K (aC R) "__getattribute__"==RD&&readsIn K R oE&&a.Nodup
structure Kit(K:Nd)(R:Addr)(cs:cV):Prop where
 xR:XC K R
 xc:∀c∈cs,XC K c
 mr:∀c∈cs,mroIn K c (aC R)=hQ
 kv:∀c∈cs,kitOne K (aC c) oY=hQ
 mv:∀c∈cs,mroIn K c oY=hQ
 kk:∀c∈cs,∀d∈cs,kitOne K (aC c) (aC d)=sO (c==d)
 ga:specialIn K (aC R) "__getattribute__"=RD
 rd:readsIn K R oE=true
 nd:cs.Nodup
theorem Qox{K:Nd}{R:Addr}{f:cV}(e:QqG K R f=true):Kit K R f:=by
 unfold QqG at e;simp only[NL,beq_iff_eq,NV,decide_eq_true_eq]at e;obtain⟨⟨⟨⟨j,b⟩,i⟩,h⟩,g⟩:=e;exact⟨Qpm j,λc a=>Qpm (b c a).1.1.1.1,λc a=>(b c a).1.1.1.2,λc a=>(b c a).1.1.2,λc a=>(b c a).1.2,λc a d hd=>(b c a).2 d hd,i,h,g⟩
structure RoomQ(k:Nat)(A:Around):Prop where
 dp:jp1
 un:A.units+16*k+200<cLine
theorem Room.q{k:Nat}{A:Around}(r:P'):RoomQ k A:=⟨r.dp,r.un⟩
theorem RoomQ.mark{k:Nat}{A:Around}(r:RoomQ k A)(v:jS):RoomQ k (A.mark v):=⟨r.dp,r.un⟩
theorem RoomQ.deeper{k:Nat}{A:Around}(r:RoomQ (k+1) A)(env:Env):RoomQ k (A.deeper env):=
 ⟨jc7,jb6⟩
noncomputable abbrev SpQ:=bD->fR
section
variable{X:Cx}{k:Nat}{f:Addr}{fd:FuncData}{ps:aD}{sp:SpQ}{x:Str}{p pos:Pos}{e:Expr}{es:eE}{t:TA}
noncomputable def QqN:V->Option Str
 |aL i=>if i.natAbs.log2<1920 then sO (toString i)else nO
 |aJ x=>if lT then sO x else nO
 |_=>nO
theorem Qoi{te:TE}(l:rF):PE X (.FormattedValue e (-1) nO pos) (λσ H Q=>te σ H λv c=>∃y,QqN v=sO y/\Q lE c):=by
 show cZ b σ Q;refine wpAny_FormattedValue_plain (thn (eW l b σ) (aP u n d));obtain⟨v,c,I1,r,y,a,q⟩:=d;unfold QqN at a;split at a
 ·show wR i a
  ·show eF j a;obtain⟨t,rfl⟩:=(S6 r)
   exact wpAny_formatField_int j ⟨.str (toString i),c,I1.tok _,cN,q⟩
  ·cases a
 ·show wR m a
  ·rename_i g;cases(a);obtain⟨t,rfl⟩:=(vG u y r)
   exact PySem.wpAny_formatField_str ⟨aJ y,c,I1,cN,q⟩ ⟨aJ y,c,I1.tok _,cN,q⟩ g
  ·cases a
 ·cases a
noncomputable def tJ:List TE->Str->TE
 |[],a=>λ_ H Q=>Q (lM a) H
 |t::r,a=>λσ H Q=>t σ H λv b=>∃y,v=aJ y/\(a++y).length<=sizeLine/\tJ r (a++y) σ b Q
theorem Qrf{c:bP}{σ:St}{Q:VK}{es:eE}{g:List TE}(d:Paired (PE X) es g):∀(a:Str) (s:Shared) (H:Hp),Tg->cF c σ->tJ g a σ H Q ->
  Joins bZ X.A X.xe (evalEach es X.env) a (λout b=>out.length<=sizeLine/\EP X c σ Q (.str out b.toks) { b with toks:=b.toks+1 }) s:=by
 induction d with
 |nil=>exact λa s H o I h=>⟨o,aJ a,H,gJ,cN,h⟩
 |cons d _ n=>
  intro a s H _ I h;refine thn (eW d c σ) (aP u m j);obtain⟨v,B,I1,r,y,z,i,q⟩:=j;subst z;obtain⟨l,rfl⟩:=(vG u y r)
  exact⟨y,l,rfl,i,n (a++y) m B i I1 q⟩
theorem Qkw{b a:Expr}{rest:eE}{c:List TE}(h:Paired (PE X) (b::a::rest) c):PE X (.JoinedStr (b::a::rest) pos) (tJ c Str.empty):=by
 intro d s g H Q I q;exact wpAny_JoinedStr (Qrf h Str.empty s H aA I q)
#print "-"
open Builtin.Str
theorem Qc9:∀(l:List (Str×Tok)),Vals (l.map λp=>V.str p.1) (strValues l)
 |[]=>.nil
 |(x,t)::r=>.cons (hL t) (Qc9 r)
theorem Qiw{X:Cx}:MtM X "str.split" (λx xs H Q=>∃a b,x=aJ a/\xs=[aJ b]/\b.length≠0/\Tg/\(Txt.split a b).length<=sizeLine/\∀p,mG->Q (aC p) (upd H p (.lst ((Txt.split a b).map .str)))):=by
 intro d s o H x D v E Q I r w h;obtain⟨a,b,rfl,rfl,z,A,m,q⟩:=h;obtain⟨u,rfl,y⟩:=Yl w;obtain⟨t,rfl⟩:=(vG v a r)
 obtain⟨g,rfl⟩:=(vG u b y)
 have j:(b.length==0)=false:=SB z
 have fin:∀(l:List (Str×Tok)) (i:Nat),l.map (·.1)=Txt.split a b->EP X d o Q i4 { s with heap:=s.heap.push { cls:=eC,data:=.seq (strValues l).toArray },toks:=i }:=λl i e=>by
  have B:(Txt.split a b).map V.str=l.map λp=>V.str p.1:=by rw[<-e,El];rfl
  refine⟨kE s,_,I.lnew (t':=i) (ys:=(Txt.split a b).map .str) (by rw[B];exact Qc9 l) (cD m),rfl,q _ I.fresh⟩
 cases c:(decide (a.length<b.length) ||decide (Str.strKind a<Str.strKind b))
 ·cases f:(occurrences a b 0 a.length (eY a)).isEmpty
  ·have n:Txt.split a b=partsBetween a (occurrences a b 0 a.length (eY a)) b.length:=(if_neg (zF5 c)).trans (if_neg (zF5 f));refine DN ET (Ig _ _ _) Lx (Lh _ _) (meets_str_split_sep a b t g c j f A (BP n m)) ?_;show wants _ _ _ { s with toks:=_,heap:=s.heap.push { cls:=eC,data:=.seq (strsFrom s.toks (partsBetween a (occurrences a b 0 a.length (eY a)) b.length)).toArray } };rw[strsFrom_eq];exact fin (numbered s.toks _) _ ((numbered_texts _ _).trans n.symm)
  ·exact DN ET (Ig _ _ _) Lx (Lh _ _) (meets_str_split_not_found a b t g c j f) (fin [(a,t)] _ ((if_neg (zF5 c)).trans (if_pos f)).symm)
 ·exact DN ET (Ig _ _ _) Lx (Lh _ _) (meets_str_split_cannot_occur a b t g c) (fin [(a,t)] _ (if_pos c).symm)
#print "-L2"
namespace Mi
open L2
noncomputable def Jm(a:W)(ws:aH)(h:MH):bJ:=match a,ws with
 |aJ x,[aJ y]=>if y.length≠0/\lT/\(Txt.split x y).length<=sizeLine then sO (.lst ((Txt.split x y).map .str),h)else nO
 |_,_=>nO
theorem Kz{X:Cx}:Qfq X "str.split" Jm:=by
 intro b s j H x F v n Q I t u q;obtain⟨R,h,a,G,w,J,B,C,d,e,k⟩:=q;unfold Jm at e;split at e
 ·show pI c m e
  ·show eF i e;show qW y o d;refine Qiw b s j H x _ v n Q I t u ⟨c,m,C.str_eq,by rw[o.str_eq],i.1,i.2.1,i.2.2,bQ p E⟩
   have A:∀l:aD,Rws X.K R (gW l) (gW l):=λl=>by
    induction l with
    |nil=>show xI
    |cons z r D=>exact Rws.cons (Rw.str z) D
   obtain⟨R1,c,g,f⟩:=B.lstI E (A _);exact k R1 _ _ c g f
  ·cases e
 ·cases e
noncomputable def QhH:SM:=λ_ _=>nO
theorem QcV{X:Cx}{st:Stmt}:PMS X st QhH:=λ_ _ _ _ _ _ q=>by
 obtain⟨R,a,h,r,b,s,e,k⟩:=q;cases e
#print "-Mi"
namespace L2
open PySem.W
section
variable{M:Model}{A:Around}{E:bI}{s:Shared}{env:Env}{l outer:fT}{base G:Heap}{L a C:Addr}{dd:dW}{P:Program}{w:World}{H H':Hp}
theorem Qfw{m:Obj}{vs:dC}{T:Addr}{p:Obj}{j:dC}{Q:Unit->cS}(v:bK a=sO m)(hd:m.data=nD)(h1:vs[1]?=sO (aC T))
  (r:bK T=sO p) (c:p.data=Av j) (t:3<j.size)
  (h:∀h' g d,(∀b,b≠T->aI h' b=bK b)->aI h' T=sO g->g.data=Av d->d[3]?=sO u0->Sm [T] [] s.heap h'->mQ) :
  wpAny M A (setFlight (aC a) (sO L)) Q E s:=by
 have ot:∀b,b≠T->(s.heap.update T (Obj.mapFields (·.setIfInBounds 3 ((sO L:dW).elim Value.none λf=>oR f)))).get? b=bK b:=λb i=>Ca i;have u:=N2 (Obj.mapFields (·.setIfInBounds 3 ((sO L:dW).elim Value.none λf=>oR f))) r (EX (Ei c _));unfold setFlight;refine Na (Es v hd h1 ?_);rw[if_pos (show(eK T != Value.none)=true from aY)];refine ED r c t (h _ _ _ ot u (Ei c _) (kS t) (Sm.of (λb o e n=>(ot b (l6 n)).trans e) (aP b o e)))
 by_cases i:b=T
 ·subst i;show kU u
 show zF4 i
theorem QoG{O:Value}{Q:Unit->cS}(F:Fly P w l H G a C dd O H' s.heap)(h:∀h',Fly P w l H G a C dd u0 H' h'->mQ):wpAny M A (setFlight (aC a) (sO L)) Q E s:=by
 obtain⟨un,f,obj,new,r,o,T,S,B,n,z,y,i,x,v,u,g,R,m,j⟩:=F;have N:3<B.size:=rR j
 refine Qfw n i x R m N λh' e d t J I D p=>h h' ⟨Qep un p jf9 (λb c=>gG c),
  QaM f p (λb c=>by simp at c;rw[c];exact gY u) (λb c=>gG c) obj ⟨r,o,SU,z,y,i⟩,obj,new,
  r,o,T,e,d,SU,z,y,i,x,v,u,g,J,I,D⟩
theorem Qc1{Q:Unit->cS}(F:Fly P w l H G a C dd u0 H' s.heap)(e:By)(h:Q () s):wpAny M A (noteFrame (aC a) env) Q E s:=by
 obtain⟨un,d,obj,new,o,m,T,p,n,j,x,v,i,g,u,t,r,f,c,b⟩:=F;show zu1 e j i g;rw[if_pos (show(eK T != Value.none)=true from aY)];refine Na (Es f c b ?_);rw[if_pos (show(oR L==oR L)=true from aY)];exact Nj h
theorem Qh3{g:Obj}{vs:dC}{Q:Unit->cS}(un:jr0)(f:Pb H' s)(obj:H' a=sO kK)(new:aI G a=nO)
  (v:bK a=sO g) (J:g.cls=aG C) (I:g.dict=dd) (u:g.data=nD) (t:zK4)
  (n:A.frames=sO lA) (T:s.heap.FunFrames base lA) (D:By)
  (F:∀b∈frs lA,(b∈frs l\/aI G b=nO)/\H' b=nO)
  (h:∀h',Fly P w l H G a C dd u0 H' h'->mQ):wpAny M A (noteFrame (aC a) env) Q E s:=by
 show zu1 D v u t;rw[if_neg aA];refine Qae n T D v u (rR t) λh' d j i y S R O B x=>?_;have e:bK d=nO:=Dl y
 have r:aI G d=nO:=by
  cases q:aI G d with
  |none=>rfl
  |some o=>obtain⟨U,z⟩:=un.there d o q aF;show bT e z
 show zq1 p d f y N u;have m:d≠a:=λq=>BD q v e
 exact h h' ⟨Qep un x je3 (pH c F),
  QaM f x (λb c=>by simp at c;exact dU c) (λb c=>(F b c).2) obj ⟨_,_,B,C5 J,BN I,N⟩,obj,new,
  _,_,d,j,i,B,C5 J,BN I,N,by simp[rR t],r,p,m,S,R,O⟩
#print "-"
section
variable{P:Program}{w:World}{K:Nd}{mg:c'}{base:Heap}{N:aD}{qual:Str}{scope:Scope}{f:Addr}{cd:Value}{A:Around}{outer:fT}{s0:Shared}{H0:Hp}{E:XK}
structure Unn(P:Program)(w:World)(env:Env)(outer:fT)(base:Heap)(H:Hp)(G:Heap)(a C:Addr)(dd:dW)(H':Hp)(h:Heap):Prop where
 un:Un (frs outer) [] H H' G h
 hok:HOk P w H' h
 obj:H' a=sO kK
 new:aI G a=nO
 tr:∃oe vs,aI h a=sO oe/\oe.cls=aG C/\oe.dict=dd/\oe.data=nD/\zK4
 ff:h.FunFrames base lA
 hS:∀b∈frs lA,(b∈frs outer\/aI G b=nO)/\H' b=nO
noncomputable def XU(P:Program)(w:World)(env:Env)(outer:fT)(base:Heap)(H0:Hp)(s0:Shared)(E:XK):bI:=λe s=>∃a C c b,e=aG a/\s.os=s0.os/\zL s/\E (aC C) pU b/\∃L,By /\
 (Unn P w env outer base H0 s0.heap a C c b s.heap\/Fly P w outer H0 s0.heap a C c u0 b s.heap)
noncomputable abbrev cxU(P:Program)(w:World)(K:Nd)(mg:c')(base:Heap)(N:aD)(qual:Str)(scope:Scope)(f:Addr)(cd:Value)(A:Around)(outer:fT)(s0:Shared)(H0:Hp)(E:XK):Cx:=
 (cxR P w K mg base N qual scope f cd A outer s0 H0 E).wish (XU P w sN outer base H0 s0 E)
theorem Ge{g:bP}{σ:St}{c:Hp}{d:Shared}{a C:Addr}{dd:dW}(I:Inv (cxU P w K mg base N qual scope f cd A outer s0 H0 E) g σ c d)(i:c a=sO zO)(n:jF s0 a=nO)
  (h:E (aC C) pU (upd c a kK)):(cxU P w K mg base N qual scope f cd A outer s0 H0 E).xe (aC a) d:=by
 obtain⟨v,t,j⟩:=Qcm I.hok i;have un:Un (frs outer) [] H0 (upd c a kK) s0.heap d.heap:=Qrc I.base i n
 have m:HOk P w (upd c a kK) d.heap:=HOk.write (x:=a) (e:=a) (h':=d.heap) I.hok (zy1 i) fE (Co e) (xW j)
  ⟨⟨_,_,j,rfl,rfl,rfl⟩,xW j,λ_ _ ⟨o,r,u,s⟩ k=>⟨o,r,k _ u,s⟩⟩
 refine⟨a,C,dd,_,rfl,I.os,I.bare,h,_,rfl,.inl ⟨un,m,Zq,n,⟨_,_,j,rfl,rfl,rfl,rfl⟩,I.stack,bQ b p⟩⟩;have l:c b=nO:=I.stkFree b p;refine⟨?_,by rw[QE (i5 y i l)];exact l⟩;have q:b∈s0.heap.objs.size::frs outer:=p
 show C7 q z
 ·exact .inr (by rw[z];exact Dl cO)
 ·exact dU z
theorem Qkf{j:Around}{M:Model}(d:j.frames=zY4):PassesOwn M j sN (XU P w sN outer base H0 s0 E):=by
 rintro e s ⟨a,C,n,o,rfl,os,bare,q,L,c,v⟩
 have fin:∀(b:Heap),Fly P w outer H0 s0.heap a C n u0 o b->cameBackBy M j sN (XU P w sN outer base H0 s0 E) (aC a) { s with heap:=b }:=λb F=>by
  obtain⟨un,t,obj,new,r,p,T,B,z,i,m,l,h,g,J,I,H,G,y,x⟩:=id F;unfold cameBackBy;refine Na (Es i h g ?_);rw[if_neg (show¬((eK T==Value.none)=true)from aY)];rw[c];exact QoG (s:={ s with heap:=b }) F λD F2=>⟨a,C,n,o,rfl,os,bare,q,L,c,gY F2⟩
 unfold notedBy
 rcases v with u|F
 ·obtain⟨r,p,i,m,l,h,g⟩:=u.tr;exact Qh3 u.un u.hok u.obj u.new i m l h g d u.ff c u.hS λb F=>fin b F
 ·exact Qc1 F c (fin s.heap F)
theorem Qob{M:Model}{i:Around}{e:Value}{s:Shared}{x:bI}(b:i.frames=zY4)(h:XU P w sN outer base H0 s0 E e s):wpAny M i (leaving sN e) (λ_ j=>CXr P w outer H0 s0 E e j) x s:=by
 obtain⟨a,C,d,g,rfl,os,bare,q,L,c,l⟩:=h
 rcases l with u|F
 ·obtain⟨z,y,t,r,p,o,n⟩:=u.tr;exact QgZ u.un u.hok u.obj u.new t r p o n b u.ff c u.hS (jt1 F)
 ·unfold leaving;exact Na (Qc1 F c (G5 F (jt1 v)))
variable{C:Addr}{x:Str}{np cpos pos:Pos}{e:Expr}{te:TA}
theorem Qec(hh:jU)(M:XM K C nO)(Y:Gl (cxU P w K mg base N qual scope f cd A outer s0 H0 E) x)(X:mg x=sO (aC C))(Z:PA (cxU P w K mg base N qual scope f cd A outer s0 H0 E) [e] te)(m:gB:=by decide)
  (j:starEach [e] (cxU P w K mg base N qual scope f cd A outer s0 H0 E).env=[(false,eval e (cxU P w K mg base N qual scope f cd A outer s0 H0 E).env)]:=by rfl) :
  PS (cxU P w K mg base N qual scope f cd A outer s0 H0 E) Rz (λ_ σ H=>te σ H λvs n=>∃v,vs=[v]/\∀a,n a=nO->E (aC C) pU (upd (upd n a zf1) a (XO a C nO))):=by
 show cZ i σ D;rw[arm_exec_Raise];refine Na (Fe (Qex (K:=K) hh ?_));refine Na (NZ (EI (Yx I Y X ?_ m)) jm2 (gL z));refine callWith_K (h₀:=base) I.ok.mod.kin M.kp (thn (Z cpos i s σ H _ I h) (aP G O F)) j rfl;show zt7 n F;obtain⟨Nn,nm,qq,bs,bm,u,sn,sub,ab,aa,dd,k0,k1,k2,k3,k5,mN,U,T,S,R⟩:=M.obj;obtain⟨v,ev,q⟩:=q;have Q:G.length=1:=jz2
 have kIn:=I1.kIn;obtain⟨l,g,d,J,os⟩:=O;refine wpAny_call_exc_subT FL (T _ kIn) (kIn _ _ U) (S _ kIn) R (jJ h' a c) (by rw[Ob,Q];decide);obtain⟨L,B,_⟩:=c.there;have I2:=I1.laidX (t':=J) c.keeps c.new (QhP (C:=C) (dd:=nO) B)
 have g0:jF s0 a=nO:=by
  cases z:jF s0 a with
  |none=>rfl
  |some o=>obtain⟨o',p⟩:=jd3;rw[show aI l a=nO from c.new]at p;cases p
 exact⟨a,C,nO,#[],L,rfl,λb o e=>c.keeps b o (kIn b o e),M.xc,B,Ge I2 Zq g0 (q a (I1.hok.off c.new))⟩
theorem Qd4{k:Nat}{l:Addr}{fd:FuncData}{ps:aD}{sp:Sp}{G:Obj}(L:Room (k+1) (A.deeper sN))(M:XM K C (sO (aC l)))(F:FnOk P w K mg base A4 k l fd ps sp)(hb:Bi)(lI:iF l=sO G)(cI:G.cls=Bl)
  (hg:Gl (cxU P w K mg base N qual scope f cd A outer s0 H0 E) x) (hm:mg x=sO (aC C)) (he:PA (cxU P w K mg base N qual scope f cd A outer s0 H0 E) [e] te) (j:gB:=by decide)
  (i:starEach [e] (cxU P w K mg base N qual scope f cd A outer s0 H0 E).env=[(false,eval e (cxU P w K mg base N qual scope f cd A outer s0 H0 E).env)]:=by rfl) :
  PS (cxU P w K mg base N qual scope f cd A outer s0 H0 E) Rz (λ_ σ H=>te σ H λvs p=>∃v,vs=[v]/\∀a,p a=nO ->
   sp (aG a::vs) (upd p a zf1) (λy n=>y=.non/\∃dd,n a=sO zO/\E (aC C) pU (upd n a kK)) TK):=by
 show cZ g σ D;rw[arm_exec_Raise];refine Na (Fe (Qex (K:=K) L.hd ?_));refine Na (NZ (EI (Yx I hg hm ?_ j)) jm2 (gL z));refine callWith_K (h₀:=base) I.ok.mod.kin M.kp (thn (he cpos g s σ H _ I h) (aP d Y T)) i rfl;show zt7 p T;obtain⟨Nn,nm,qq,bs,bm,Q,sn,sub,ab,aa,dd,k0,k1,k2,k3,k5,mN,l1,l2,l3,l4⟩:=M.obj;obtain⟨v,ev,q⟩:=q;have ln:d.length=1:=jz2
 have kIn:=I1.kIn;refine Qk6 (l2 _ kIn) (kIn _ _ l1) (l3 _ kIn) l4 (kIn _ _ lI) cI (λh' a b _=>?_) (by rw[Ob,ln];decide);rw[Ob]at b ⊢;obtain⟨t0,e1,_⟩:=b.there;have I2:=I1.laidX (t':=Y.toks) b.keeps b.new (QhP (C:=C) (dd:=nO) e1)
 have g0:jF s0 a=nO:=by
  cases z:jF s0 a with
  |none=>rfl
  |some o=>obtain⟨o',t⟩:=jd3;rw[b.new]at t;cases t
 have O:=q a (I1.hok.off b.new);have B:Vals (V.ref a::vs) (eK a::d):=.cons rfl r
 have hl:(eK a::d++[]).length=ps.length:=by
  rw[E2,<-B.length];exact F.len _ _ _ _ O
 have S:=hb _ (eK a::d) I2.kIn hl;rw[E2]at S;refine Ic (D1 (F.run _ _ _ _ ⟨eK a::d,[]⟩ (eK a::d) _ _ TK (L.make C d []) (I2.env0.make C d []) S B O) λrr s' c=>?_);cases rr with
 |error e=>obtain⟨_,_,_,_,_,_,_,_,z⟩:=c;show iH z
 | ok fl=>
  cases fl with
  |ret u=>
   obtain⟨y,n,I3,Z,ey,m,R,q3⟩:=I2.after c;subst ey;obtain⟨X,U,e2⟩:=Qcm I3.hok R;exact⟨Z,a,C,m,X,U,rfl,I3.kIn,M.xc,e2,Ge I3 R g0 q3⟩
  |next=>show iH c
  |brk=>show iH c
  |cont=>show iH c
#print "-"
#print "-L2"
namespace Mi
open L2
structure Ex where
 c:Nat
 at_:dB
def XE(h:cV)(E:XK)(e:Ex)(H:Hp):Prop:=∀a C f fs d,C=h.getD e.c 0->H a=nO->(∀b u,Ae->d b=sO u)->d a=sO (XO a C f)->XD d f fs->(∀n,e.at_=sO n->∃g,f=sO g/\fs=S3)->E (aC C) pU d
inductive MX where
 |f (r:MF)
 |ex (e:Ex) (h:MH)
noncomputable abbrev SMX:=MSt->MH->Option MX
section
variable(K:Nd)(cs:cV)(E:XK)
noncomputable def EndsX(R:Rn)(D:L2.Ends):MX->Prop
 |.f r=>Cq R
 |.ex e h=>∀R' a,jY->Ac a->XE cs E e a
noncomputable def tSX(m:SMX):TS:=λD b H=>∃R a h r,eV/\iR R a b/\m a h=sO r/\LE R
#print "-"
def PX(X:Cx)(a:cV)(E:XK)(st:Stmt)(m:SMX):Prop:=PS X st (tSX X.K a E m)
def PXs(X:Cx)(a:cV)(E:XK)(st:jX)(m:SMX):Prop:=PSs X st (tSX X.K a E m)
noncomputable def okX(m:SM):SMX:=λa h=>(m a h).map .f
noncomputable def Qcu(a b:SMX):SMX:=λd h=>(a d h).bind λr=>match r with
 |.f (.nx c e)=>b c e
 |r=>sO r
noncomputable def Qmr(t:MT)(a b:SMX):SMX:=λc h=>(t c h).bind λp=>jk2 c
open Classical in
noncomputable def Yg(items:aH)(src:rC)(b:MG)(body:SMX):aH->SMX
 |[],σ,h=>if p5 then zi1 σ h else nO
 | w::r,σ,h=>if p5 then(b w σ h).bind λσ1=>(body σ1 h).bind λz=>match z with
   |.f (.nx a c)=>jv4
   |.f (.ct a c)=>jv4
   |.f (.bk a c)=>zi1 a c
   |.f (.rt v c)=>sO (.f (.rt v c))
   |.ex e c=>sO (.ex e c)
  else nO
noncomputable def Qo6(mi:MI)(b:MG)(body:SMX):SMX:=λa h=>(mi a h).bind λp=>Yg p.1 p.2.1 b body p.1 a p.2.2
section
variable{K:Nd}{R R1:Rn}{cs:cV}{E:XK}{D:L2.Ends}{σ:L2.St}{H:Hp}
theorem EndsX.ext{r:MX}(a:LE R)(x:kW R1):LE R1:=by
 cases r with
 |f r=>exact Ends.ext a x
 |ex e h=>exact λb c y=>a b c (eI x y)
theorem Qow{m:SM}(q:tSX K cs E (okX m) D σ H):tS K m D σ H:=by
 obtain⟨R,a,h,r,b,s,e,k⟩:=q;show dI c f d e;subst d;exact⟨R,a,h,c,b,s,f,k⟩
theorem QmG{a b:SMX}(q:tSX K cs E (Qcu a b) D σ H):QqC (tSX K cs E a) (tSX K cs E b) D σ H:=by
 obtain⟨R,j,h,r,p,s,e,k⟩:=q;show fQ i t g e;refine⟨R,j,h,i,p,s,t,?_⟩;cases i with
 |ex x d=>show AH g
 |f i=>
  cases i with
  |nx c d=>exact λR1 u m n l o=>⟨R1,c,d,r,l,o,g,zk2 n⟩
  |rt w d=>show AH g
  |bk c d=>show AH g
  |ct c d=>show AH g
theorem QlU{mi:MI}{b:MG}{m:SMX}(q:tSX K cs E (Qo6 mi b m) D σ H):QqS (tII K mi) (tIG K b) (tSX K cs E m) D σ H:=by
 obtain⟨R,F,h,r,rh,s,e,k⟩:=q;obtain⟨⟨items,y,h1⟩,e1,e2⟩:=eH e;refine⟨R,F,h,items,y,h1,rh,s,e1,λR1 H1 J x1 ab it=>?_⟩;refine⟨λi n σ H=>zH7/\∃R2 j p,zk9/\Rh K R2 p H/\iR R2 j σ/\∃r,Yg items y b m zJ8 j p=sO r/\LE R2,⟨items.length,aY,R1,F,h1,wO,ab,xV x1,r,cL e2,zk2 x1⟩,?_⟩
 rintro i n L U ⟨af,R2,j,p,N,l,s2,r2,d,A⟩
 by_cases P:zM6
 ·obtain⟨w,hw⟩:∃w,rJ=sO w:=zJ9 P
  have hd:jj6:=by
   rw[EV P];rw[Nl P]at hw;cases hw;rfl
  rw[hd]at d;unfold Yg at d;split at d
  ·rename_i T;show fQ I e4 e5 d;show fQ z e6 Q e5;refine .inr ⟨it.go i w R2 p U N l T hw,λM X=>∃C G h4,Ext R1 C/\Rh K C h4 X/\iR C G M/\∃r,Yg items y b m (items.drop (i+1)) G h4=sO r/\LE C,λM X hn=>⟨n-1,fZ,fZ,hn⟩,λx X hy=>?_⟩;obtain⟨C,o,aa,Y⟩:=it.yld i w R2 p U x X N l T hw hy;refine⟨C,j,p,w,I,aa,s2.mono o,Y,e4,λR4 H4 ae u Z s4=>?_⟩;refine⟨R4,I,p,z,Z,s4,e6,?_⟩;cases z with
   |ex x B=>cases Q;exact EndsX.ext A (eI o u)
   |f z=>
    cases z with
    |nx g B=>exact λS H5 a t c O=>⟨S,g,B,N.trans (gD o u t),c,O,r2,Q,EndsX.ext A (gD o u t)⟩
    |ct g B=>exact λS H5 a t c O=>⟨S,g,B,N.trans (gD o u t),c,O,r2,Q,EndsX.ext A (gD o u t)⟩
    |bk g B=>cases Q;exact λS H5 a t c O=>A S H5 a (gD o u t) c O
    |rt v B=>cases Q;exact After.ext A (eI o u)
  ·cases d
 ·show zs6 P d;unfold Yg at d;split at d
  ·show eF T d;exact .inl ⟨it.stop i R2 p U N l T (mI P),A R2 U L c9 l s2⟩
  ·cases d
#print "-"
section
variable{X:Cx}{cs:cV}{E:XK}{st:Stmt}{rest sa sb body:jX}{c tg iter:Expr}{pos:Pos}
theorem PS.nox{t:TS}(h:PS X.nox st t):zk6:=λa s b H D I hw=>
 NZ (h a s b H D P2 hw) zz2 λ_ _ z=>pJ z
theorem QbR{m:SM}(h:PMS X.nox st m):PX X cs E st (okX m):=Xn (PS.nox h) λ_ _ _=>Qow
theorem XY{a b:SMX}(h1:PX X cs E st a)(d:PXs X cs E rest b):PXs X cs E (st::rest) (Qcu a b):=GX (WO h1 d) λ_ _ _=>QmG
theorem W4{a:SMX}(h1:PX X cs E st a):PXs X cs E [st] a:=Uj h1
theorem Qey{m:SM}(h:QgJ X.nox rest m):PXs X cs E rest (okX m):=GX (PSs.nox h) λ_ _ _=>Qow
theorem Qlj{t:MT}{a b:SMX}(m:PMT X.nox c t)(o:PXs X cs E sa a)(n:PXs X cs E sb b):PX X cs E (.If c sa sb pos) (Qmr t a b):=Xn (Qk4 (PT.nox m) o n) <|by
 rintro D u H ⟨R,d,h,r,l,s,e,k⟩
 show cX z i p j e;refine⟨R,d,h,z,i,l,s,p,fC R1 v g f⟩;cases z with
 |true=>exact Qjq ⟨R1,d,i,r,f,xV g,j,zk2 g⟩
 |false=>exact QjO ⟨R1,d,i,r,f,xV g,j,zk2 g⟩
theorem Qnf{mi:MI}{b:MG}{m:SMX}(f:X.Ok->PassesOwn bZ X.A X.env X.xe)(i:gR)(hi:Bk)(g:PMG X tg b)(j:PXs X cs E body m)
  (e:q8:=by intro _;rfl):PX X cs E zu0 (Qo6 mi b m):=λa s d H D I h=>Xn (Qjh (f I.ok) i hi g j e) (λ_ _ _=>QlU) a s d H D I h
#print "-"
#print "-Mi"
namespace L2
open PySem.W
noncomputable def Qqk(K:Nd):Sp:=λc H Q _=>∃a n C,c=[aG a,aL n]/\HQ/\H a=sO zf1/\nR/\mroIn K C oY=hQ/\findIn K (aC C) "at"=sO nO /\
 ∀b,gM->Q .non (upd (upd H b (.xd [("at",aL n)])) a (XN a C (sO b)))
theorem PSs.wishU{X:Cx}{b:bI}{st:jX}{t:TS}(h:PSs (X.wish b) st t)(d:X.Ok->∀e s,b e s->X.xe e s):PSs X st t:=λa s c H D I hw=>
 NZ (h a s c H D P2 hw) zz2 (d I.ok)
#print "-L2"
namespace Mi
open L2
noncomputable abbrev FMX:=aH->MH->jn9
noncomputable def Qqv:Option MX->jn9
 |some (.f (.rt w h))=>sO (.inl (w,h))
 |some (.f (.nx _ h))=>sO (.inl (.non,h))
 |some (.ex e h)=>sO (.inr (e,h))
 |_=>nO
noncomputable def Qhg(more:Nat)(m:SMX):FMX:=λa h=>Qqv jb9
noncomputable def Qnj(K:Nd)(b:cV)(R:Rn)(Q:VK)(E:XK):(W×MH) ⊕ (Ex×MH)->Prop
 |.inl (w,h')=>u5 R h'
 |.inr (e,h')=>∀R' a,jY->Rh K R' h' a->XE b E e a
noncomputable def Qrj(K:Nd)(c:cV)(n:Nat)(m:FMX):Sp:=λb H Q E=>∃R a h r,a.length=n/\eV/\Rws K R a b/\m a h=sO r/\Qnj K c R Q E r
section
variable{P:Program}{w:World}{K:Nd}{mg:c'}{base:Heap}{cs:cV}{k more:Nat}{f:Addr}{fd:FuncData}{x qual:Str}
theorem Qoh{st:Stmt}{N ps:aD}{m:SMX}(F:Fun K x qual st f fd)(S:FnScope N ps jZ)(hN:zw2)
  (d:∀(b:Value) (A:Around) (a:fT) (s:Shared) (H:Hp) (E:XK),Room k (A.deeper (envOfC qual jZ s.heap.objs.size f b))->PXs (cxU P w K mg base N qual jZ f b A a s H E) cs E pQ m) :
  FnOk P w K mg base A4 (k+1) f fd ps (Qrj K cs ps.length (Qhg more m)):=by
 obtain⟨O,M,kV,G,pm,T,b,ct,B,rfl,lk,o⟩:=F.ex;refine QkL lk o S (λz H Q E q=>?_) λA a s H z Q E D q=>?_
 ·obtain⟨R,y,h,r,n,i,c,_⟩:=q;show sK c;exact n
 ·refine⟨_,PSs.wishU (d b A a s H E D) λok e L C=>Qob ok.frames C,?_⟩;obtain⟨R,y,h,r,n,i,c,e,l⟩:=q;have st:=ju3 c n;unfold Qhg Qqv at e;split at e
  ·show C' J t g;exact⟨R,_,h,_,i,st,g,l⟩
  ·show C' u t g;exact⟨R,_,h,_,i,st,g,λR1 I v p j _=>l R1 I .non p j Rw.non⟩
  ·show C' p t g;exact⟨R,_,h,_,i,st,g,l⟩
  ·cases e
variable{N:aD}{scope:Scope}{cd:Value}{A:Around}{outer:fT}{s0:Shared}{H0:Hp}{E:XK}{C:Addr}{np cpos pos:Pos}{e:Expr}{ms:MA}{c:Nat}
noncomputable def Qg3(c:Nat)(ms:MA):SMX:=λa h=>(ms a h).bind λp=>match p.1 with
 |[_]=>sO (.ex ⟨c,nO⟩ p.2)
 |_=>nO
noncomputable def QbC(c:Nat)(ms:MA):SMX:=λa h=>(ms a h).bind λp=>match p.1 with
 |[aL n]=>if HQ then sO (.ex ⟨c,sO n⟩ p.2)else nO
 |_=>nO
theorem QfP(hh:jU)(M:XM K C nO)(G:cs.getD c 0=C)(B:Gl (cxU P w K mg base N qual scope f cd A outer s0 H0 E) x)(y:mg x=sO (aC C))(F:PMA (cxU P w K mg base N qual scope f cd A outer s0 H0 E) [e] ms)(l:gB:=by decide)
  (j:starEach [e] (cxU P w K mg base N qual scope f cd A outer s0 H0 E).env=[(false,eval e (cxU P w K mg base N qual scope f cd A outer s0 H0 E).env)]:=by rfl) :
  PX (cxU P w K mg base N qual scope f cd A outer s0 H0 E) cs E Rz (Qg3 c ms):=Xn (Qec hh M B y F l j) λD Q H q=>by
 obtain⟨R,g,h,r,t,s,e,k⟩:=q;show cX S I J d e;show sZ d
 ·show eF T d;refine⟨R,g,h,_,I,t,s,J,fB L O U o i p⟩;obtain⟨v,rfl,_⟩:=Wb p;exact⟨v,rfl,λa m=>k L O o i a C nO [] _ G.symm m (λb u e=>by rw[PZ m,PZ m];exact e) Zq rfl (λn z=>fN z)⟩
 ·cases d
theorem Qfh{k:Nat}{y:Addr}{i:FuncData}{ps:aD}{B:Obj}(T:Room (k+1) (A.deeper sN))(M:XM K C (sO (aC y)))(F:FnOk P w K mg base A4 k y i ps (Qqk K))(hb:Binds K i ps [])(S:iF y=sO B)(cI:B.cls=Bl)
  (Q:OQ K C oY=hQ) (O:IZ K (aC C) "at"=sO nO) (hC:cs.getD c 0=C)
  (Y:Gl (cxU P w K mg base N qual scope f cd A outer s0 H0 E) x) (X:mg x=sO (aC C)) (Z:PMA (cxU P w K mg base N qual scope f cd A outer s0 H0 E) [e] ms) (t:gB:=by decide)
  (p:starEach [e] (cxU P w K mg base N qual scope f cd A outer s0 H0 E).env=[(false,eval e (cxU P w K mg base N qual scope f cd A outer s0 H0 E).env)]:=by rfl) :
  PX (cxU P w K mg base N qual scope f cd A outer s0 H0 E) cs E Rz (QbC c ms):=Xn (Qd4 T M F hb S cI Y X Z t p) λD σ H q=>by
 obtain⟨R,m,h,r,L,s,e,k⟩:=q;obtain⟨⟨ws,h1⟩,e1,g⟩:=eH e;show sZ g
 ·show wR n g
  ·show eF U g;refine⟨R,m,h,_,h1,L,s,e1,λR' H' vs G o I=>?_⟩;show qW v J I;obtain rfl:=J.int_eq;refine⟨_,rfl,λa l=>⟨a,n,C,rfl,U,Zq,M.xc,Q,O,λj hd=>⟨rfl,sO j,Zq,?_⟩⟩⟩;have d:j≠a:=λz=>by rw[z,Zq]at hd;cases hd
   rw[QE d]at hd;refine k R' H' G o a C (sO j) S3 _ hC.symm l (jJ b u e) Zq ?_ (bQ n' z)
   ·rw[PZ l,PZ l,QE (Zo e hd),PZ l];exact e
   ·show upd _ a _ j=_;rw[QE d,QE d,Zq]
   ·cases z;exact⟨j,rfl,rfl⟩
  ·cases g
 ·cases g
#print "-"
#print "-Mi"
namespace L2
open PySem.W
section
variable{X:Cx}{e:Expr}{ta:TE}{f:Str}{pos:Pos}
theorem Qe1:∀{a:cV} {us:aZ},Vals (a.map V.ref) us->us=a.map Value.ref:=by
 intro a
 induction a with
 |nil=>
  intro us h;cases h;rfl
 |cons c a b=>
  intro us h;cases h with
  |cons g d=>rw[b d,show _=eK c from g];rfl
theorem QfK:CallR X Hr (λxs H Q=>∃(a C:Addr) (dd:dW) (fs:pC) (T:Addr) (g:cV) (b:Bool),xs=[aG a,aG T]/\H a=sO kK/\zi9/\Ag/\H T=sO (.tup (g.map V.ref))/\kitAny X.K (aC C) (g.map Value.ref)=sO b/\Q pP H):=by
 intro i s A H xs B Q I r h;obtain⟨a,C,dd,fs,T,g,b,rfl,x,hd,j,y,k,q⟩:=h;obtain⟨m,l,rfl,v,u⟩:=Qaw r;obtain rfl:m=aG a:=v;obtain rfl:l=aG T:=u;obtain⟨w,t,p,_⟩:=I.tuple (a:=T) (xs:=g.map V.ref) (SqT.of y);obtain rfl:=Qe1 t;obtain⟨⟨c,d,E,D⟩,g1,g2,n,g3⟩:=p;dsimp only at g2 g3;subst g2 g3;exact kia_tup (QcW j) I.kIn (QgH I.hok x hd) g1 k i7 λo=>⟨.bl b,H,I.tok o,rfl,q⟩
#print "-"
#print "-L2"
namespace Mi
open L2
noncomputable def QgS(ms:MA)(m:FMX)(g:Ex->MSt->Pd):SM:=λb h=>(ms b h).bind λp=>(m p.1 p.2).bind λr=>match r with
 |.inr (e,c)=>(g e b).map λa=>.nx a c
 |.inl _=>nO
theorem Rh.up{K:Nd}{R:Rn}{h:MH}{H d:Hp}(q:eV)(k:∀b u,Ae->d b=sO u):Rh K R h d:=
 ⟨q.len,λa o e=>k a o (q.sub a o e),q.sep,q.inj,λn o e=>by
  obtain⟨f,u,_,c⟩:=q.there (n:=n) (by rw[q.len];exact(Nh.mp e).1);have z:=q.obj n o e;rw[c]at z
  rw[k _ _ c];exact z,λa o e=>k a o (q.gsub a o e),q.gsep,q.gf⟩
section
variable{X:Cx}{k:Nat}{f R:Addr}{fd:FuncData}{ps:aD}{fx rx n:Str}{p cpos epos rp hpos tpos:Pos}{e:Expr}{es:eE}{ms:MA}{b₀:Stmt}{suite:jX}{i:Nat}{ts:Addr->TS}{cs:cV}{m:FMX}{g:Ex->MSt->Pd}
theorem Qlk(F:FnOk X.prog X.w X.K X.mg X.base (CXr X.prog X.w) k f fd ps (Qrj X.K cs ps.length m))(hr:Cc)(hg:Gl X fx)(hm:X.mg fx=sO (aC f))(hk:DY X.K (aC f)=true)(hb:zC6)(ha:PMA X.nox eO ms)(aa:zb2=ps.length)
  (Q:Gl X rx) (P:X.mg rx=sO (aC R)) (xR:XC X.K R) (hN:X.N.Nodup) (hi:X.N[i]?=sO n) (hl:wH n=nI) (o:zw9/\zt9) (M:jf3)
  (J:∀(x:Ex) (d b:MSt),g x d=sO b->∀(Y:Rn) (h':MH) (s:Hp) (σ:L2.St) (a C:Addr) (dd:dW) (fs:pC) (D:L2.Ends),Rh X.K Y h' s->Rst X.K Y d σ->C=cs.getD x.c 0->s a=sO kK->XD s dd fs->(∀n,x.at_=sO n->∃dx,dd=sO dx/\fs=S3) ->
   (∀R' t l,Ext Y R'->Rh X.K R' h' t->Rst X.K R' b l->D.nx l t) ->
   Ag/\OQ X.K C (aC R)=hQ/\(ts a) { nx:=λb H'=>D.nx (b.set i nO) H',rt:=wD } (σ.set i (sO (aC a))) s)
  (j:∀σ h ws h',CV=sO (ws,h')->ws.length=ps.length)
  (T:(fx==HU)=false:=by decide) (S:(rx==HU)=false:=by decide) (he:q5:=by rfl) (O:(backTo cpos qE).any (·.1)=false:=by rfl)
  (L:swapsWith (.Call zd5 eO [] cpos) nO epos.line X.env=oM:=by rfl) :
  PMS X (.Try [.Expr (.Call zd5 eO [] cpos) epos] zW5 [] [] tpos) (QgS ms m g):=by
 refine Xn (Qnq (X:=X) (i:=i) (n:=n) F hr hg hm hk hb ha Q P xR hN hi hl o M T S he O L) (fC D σ H q);obtain⟨Rn,d,h,r,rh,st,e,en⟩:=q;obtain⟨⟨ws,h1⟩,e1,e2⟩:=eH e;show fQ r1 e3 e4 e2;cases r1 with
 |inl z=>cases e4
 |inr z=>
  show fV x h2 z;show dI b e5 e6 e4;subst e6;refine⟨Rn,d,h,ws,h1,rh,st,e1,λR1 H1 vs x1 I v=>?_⟩;refine⟨R1,ws,h1,_,j _ _ _ _ e1,I,v,e3,λR2 s Z G=>λa C dd fs t hC ha keep hx hd U=>λa9 C9 ab f1 f2 f3=>?_⟩;show oS f1 f2;have E:=Rh.up G keep;exact J x d b e5 R2 h2 t σ a C dd fs D E (st.mono (eI x1 Z)) hC hx hd U λR' H4 u y B s4=>en R' H4 u (gD x1 Z y) B s4
#print "-"
section
variable{p:aZ->Prop}
theorem ar0(h:p [])(us:aZ)(e:us.length=0):p us:=List.eq_nil_of_length_eq_zero e▸h
theorem arS{n:Nat}(h:∀a us,us.length=n->p (a::us)):∀us:aZ,us.length=n+1->p us
 |a::us,e=>h a us (Nat.succ.inj e)
theorem ar1(h:∀a,p [a]):∀us:aZ,us.length=1->p us:=arS λa=>ar0 (h a)
theorem ar2(h:∀a b,p [a,b]):∀us:aZ,us.length=2->p us:=arS λa=>ar1 (h a)
theorem ar3(h:∀a b c,p [a,b,c]):∀us:aZ,us.length=3->p us:=arS λa=>ar2 (h a)
theorem ar4(h:∀a b c d,p [a,b,c,d]):∀us:aZ,us.length=4->p us:=arS λa=>ar3 (h a)
theorem ar5(h:∀a b c d e,p [a,b,c,d,e]):∀us:aZ,us.length=5->p us:=arS λa=>ar4 (h a)
theorem ar6(h:∀a b c d e f,p [a,b,c,d,e,f]):∀us:aZ,us.length=6->p us:=arS λa=>ar5 (h a)
#print "-"
#print "-Mi"
namespace My
open L2 Mi
noncomputable def top(i:Nat):Stmt:=Ly.main.body.getD i (.Pass zR6)
noncomputable abbrev Ky:W:=.tup (Qef je5)
noncomputable abbrev Ys:W:=.tup (Qef zU5)
noncomputable abbrev Vv:W:=.int 500
noncomputable abbrev J3:W:=.int 6
noncomputable abbrev Vz:W:=.int 5
noncomputable abbrev Zt:W:=.int 8
noncomputable abbrev Vn:W:=.int 48
noncomputable abbrev Jg:W:=.int 5
noncomputable abbrev Xe:W:=.int 24
noncomputable abbrev Vt:W:=.int 5
noncomputable abbrev Qy:tK:=[("pair",4),("first",2),("second",2),("same",2),("none",1),("tell",1),("back",1),("either",0),("or",0),("again",0),("end",0),("do",1)]
noncomputable abbrev Vx:W:=.tup [.int 1,.int 0,.int 0,.int 0]
section
variable{P:Program}{w:World}{K:Nd}{mg:c'}{base:Heap}
noncomputable abbrev Vl:Stmt:=top 58
theorem sc__law_words:FnScope ["program","found","name","lines"] cJ (Qn Vl):=dG
noncomputable abbrev Vk:SM:=(Q6 1 (Qi Zd aK (Zc Jd (QP cB) [nO] d9 (QB (Qi wEq (Qi wIx aE bC) mU)) (Qi wIx aE bY))))
noncomputable def Kc:FM:=QN 3
  (QG (Q6 1 qX)
  (QG (JX (QP aE) nA
  Vk)
  (ZU (mFn Kv (Qb aK Ql)))))
set_option maxHeartbeats 4000000 in
theorem UR(d:DefAt K mg "_law_words" Vl cJ)(c:r6)(a:Bz):Cal P w K mg base 1 "_law_words" cJ Kc:=by
 refine Q4 (k:=0) (more:=3) d sc__law_words rfl λf h A b s H E g=>?_;show dO e g;show bR;exact sc__law_words.nd;show bH;show d8;exact Qd;show bE
 show iJ;show l5;show vE;refine Q8 sc__law_words.nd rfl dA ?_ ?_;refine Q8 sc__law_words.nd rfl dA ?_ ?_;exact VV
 show fK
 show fK
 show iK;show hX;show kD;exact sc__law_words.nd;show bH;show bX;exact Qc _;refine YS Z1 ?_ (Z0 (Nb:=dE) (cp:=[nO]) rfl bB bB rfl rfl) ?_ cW cW cW;exact rfl;show l5;show j3;show dP e;show bO;exact Qj;show bO;show bE
 exact d7;show bM;show zs9;show cC;show cC;exact Qc _;exact rfl
noncomputable def JQ:FM:=box frN Kc
theorem UK(d:DefAt K mg "_law_words" Vl cJ)(b:r6)(a:Bz):Cal P w K mg base 1 "_law_words" cJ JQ:=(UR d b a).box frN
noncomputable abbrev VE:Stmt:=top 51
theorem sc__law_mixed:FnScope ["script","k","cell","number"] zA (Qn VE):=dG
noncomputable def VS:FM:=QN 2
  (QG (Q6 2 bC)
  (QG (Ju (QB (Qi wGt (mFn JT (Qb aE Ql)) bC)) (Q6 2 (Qi wIx aE (Qi JL aK (mFn JT (Qb aE Ql))))) Q7)
  (QG (Q6 3 (Qi JL (Qi JV (Qi Zd (Qi Zd aV (Qi JV (Qi JV (mC (.int 7919)) aK) aK)) aM) (mC (.int 1357913579135791357))) ji9))
  (ZU (Qi JL (Qi Zd (Qi Zd (Qi JV cB cB) (Qi JV (mC (.int 48271)) cB)) (Qi JV (mC (.int 104729)) aK)) ji9)))))
set_option maxHeartbeats 4000000 in
theorem UQ(d:DefAt K mg "_law_mixed" VE zA)(b:dR):Cal P w K mg base 1 "_law_mixed" zA VS:=by
 refine Q4 (k:=0) (more:=2) d sc__law_mixed rfl λf e A a s H E c=>?_;show dO g c;show bR;exact sc__law_mixed.nd;show bH;exact Qf;show bE
 show cU;show p6;show eJ;show aB;show aT;decide;show aN;exact Qf;show hX;show kD;exact sc__law_mixed.nd;show bH;show gC;show i8;exact Qc _;show eJ;show aB;show aT;decide;show aN;show bE
 exact QA;show bR;exact sc__law_mixed.nd;show bH;show i8;show lX;show bX;show bX;exact Qc _;show lX;show lX;show BR;show dH;show Ci;show bE
 show bM;show i8;show bX;show bX;show lX;show yZ;show lX;show BR;show lX;exact Qf;show dH
noncomputable def Qw:FM:=box frN VS
theorem UH(d:DefAt K mg "_law_mixed" VE zA)(a:dR):AK:=(UQ d a).box frN
noncomputable abbrev Vb:Stmt:=top 59
theorem sc__law_backed:FnScope ["script","program","words","parts","k","fresh","j","number"] vI (Qn Vb):=dG
noncomputable abbrev Vd:SM:=(QG (Q6 7 (QD 2 Qw (Qb aE (Qb (Qi Zd (Qi Zd (mC (.int 200)) (Qi JV (mC (.int 50)) dF)) dY) Ql))))
  (QG (Ju (QB (Qi wEq (Qi JL dS iT) bC)) (VQ (mMt "list" ZI hY (Qb (mFn Xf (Qb yJ (Qb (Qi wIx aV (Qi JL (Qi V8 dS iT) (mFn JT (Qb aV Ql)))) Ql))) Ql))) Q7)
  (VQ (mMt "list" ZI hY (Qb (Qi wIx (Qi wIx (Qi wIx aK dF) aM) dY) Ql)))))
noncomputable abbrev Jn:SM:=(QG (Q6 5 j9)
  (QG (JX (KA (Qb (mFn JT (Qb (Qi wIx (Qi wIx aK dF) aM) Ql)) Ql)) (ZK 6)
  Vd)
  (VQ (mMt "list" ZI cB (Qb (mFn Xf (Qb (Qi wIx (Qi wIx aK dF) bC) (Qb (mFn J8 gO) Ql))) Ql)))))
noncomputable def XS:FM:=QN 6
  (QG (Q6 2 (QD 1 JQ (Qb aK Ql)))
  (QG (Ju (QB (Qi wEq aV qX)) (Q6 2 (mFn JB (Qb (mC (.str "spare")) Ql))) Q7)
  (QG (Q6 3 j9)
  (QG (JX (KA (Qb (mFn JT (Qb aK Ql)) Ql)) EQ
  Jn)
  (ZU (mFn J8 (Qb cB Ql)))))))
set_option maxHeartbeats 4000000 in
theorem UB(d:DefAt K mg "_law_backed" Vb vI)(i:dR)(e:tP)(c:jP)(b:AK)(a:Cal P w K mg base 1 "_law_words" cJ JQ):Cal P w K mg base 2 "_law_backed" vI XS:=by
 refine Q4 (k:=1) (more:=6) d sc__law_backed rfl λf l A g s H E h=>?_;show dO j h;show bR;show IN;show bH;show cK h;show aT;exact rfl;show aN;show bE
 show cU;show dP j;exact Qc _;show d8;exact Qd;show hX;show kD;show IN;show bH;show d8;show aB;show dV;show bE
 exact QA;show bR;show IN;show bH;show kG;show bE
 show iJ;show o9;show cC;show aB;show eJ;show aB;show aT;decide;show aN;show fP;exact QM sc__law_backed.nd rfl dA;show bR;show IN;show bH;show kG;show bE
 show iJ;show o9;show cC;show aB;show eJ;show aB;show jB;show gC;show dH;show fS;show aN;show fP;exact QM sc__law_backed.nd rfl dA;show bR;show IN;show bH;show cK h;exact Qc _;show aB;show bX;show bX;exact Qf;show lX;show BR;show aT;exact rfl;show aN;show bE
 show cU;show dP j;show i8;show dH;exact Qf;show kX;show aB;show eG;show aB;exact Qj;show aB;show gC;show jK;show eJ;show aB;show aT;decide;show aN;show zU;exact QA;show kX;show aB;show jB;show jB;show gC;show dH;show aT;exact d7;show kX;show aB;show eG;show aB;show jB;show gC;show dH;show aB;show oV;show cC;show aB;show aT;decide;show aN;show zU;exact d7;show bM;show oV;show cC;show aB;show aT;decide;show aN
noncomputable def Jr:FM:=box frN XS
theorem W9(d:DefAt K mg "_law_backed" Vb vI)(f:dR)(e:tP)(c:jP)(b:AK)(a:Cal P w K mg base 1 "_law_words" cJ JQ):Cal P w K mg base 2 "_law_backed" vI Jr:=(UB d f e c b a).box frN
noncomputable abbrev Xv:Stmt:=top 60
theorem sc__law_row:FnScope ["line","word"] dE (Qn Xv):=dG
noncomputable def Zz:FM:=QN 1
  (QG (Q6 1 (Qi wIx aE bC))
  (QG (Ju (QB (Qi wEq aK HG)) (ZU (Qi Zd (Qi Zd (Qi wIx aE aM) (mC (.str " = "))) (Qi wIx aE bY))) Q7)
  (QG (Ju (QB (Qi wEq aK mU)) (ZU (Qi Zd (Qi Zd (Qi wIx aE aM) (mC (.str " = pair "))) (mMt "str" Xp jN (Qb (mSl aE (ZW bY) Ji) Ql)))) Q7)
  (QG (Ju (UW (QB (Qi wEq aK B7)) (QB (Qi wEq aK B5))) (ZU (Qi Zd (Qi Zd (Qi Zd (Qi Zd (Qi wIx aE aM) (mC (.str " = "))) aK) jN) (Qi wIx aE bY))) Q7)
  (QG (Ju (QB (Qi wEq aK vM)) (ZU (Qi Zd (Qi wIx aE aM) (mC (.str " = none")))) Q7)
  (QG (Ju (QB (Qi wEq (mFn JT (Qb aE Ql)) bY)) (ZU (Qi Zd (Qi Zd aK jN) (Qi wIx aE aM))) Q7)
  (ZU aK)))))))
set_option maxHeartbeats 4000000 in
theorem Qa6(d:DefAt K mg "_law_row" Xv dE)(c:dR):Cal P w K mg base 1 "_law_row" dE Zz:=by
 refine Q4 (k:=0) (more:=1) d sc__law_row rfl λf g A b s H E e=>?_;show dO a e;show bR;exact sc__law_row.nd;show bH;show bO;show bE
 show cU;show dP a;show lY;show bM;show bX;show bX;show bO;exact Qj;show bO;exact QA;show cU;show dP a;show lY;show bM;show bX;show bX;show bO;exact Qj;show vA;show aB;show jM;show wL;exact Qd;exact QA;show cU;show lO;show dP a;show lY;show mE;show dP a;show lY;show bM;show bX;show bX;show bX;show bX;show bO;exact Qj;show lY;show bO;exact QA;show cU;show dP a;show lY;show bM;show bX;show bO;exact Qj;exact QA;show cU;show dP a;show eJ;show aB;show aT;decide;show aN;exact Qf;show bM;show bX;show bX;show lY;show bO;exact QA;show bM;exact Qc _
noncomputable def JJ:FM:=box frN Zz
theorem QaP(d:DefAt K mg "_law_row" Xv dE)(a:dR):Cal P w K mg base 1 "_law_row" dE JJ:=(Qa6 d a).box frN
noncomputable abbrev V9:Stmt:=top 61
theorem sc__law_rows:FnScope ["program","rows","name","lines"] cJ (Qn V9):=dG
noncomputable abbrev Kj:SM:=(Q6 1 (Qi Zd (Qi Zd aK (mFn JB (Qb (Qi Zd (mC (.str "part ")) aV) Ql))) (Zc Jd (QP cB) [nO] d9 KS (QD 1 JJ (Qb aE Ql)))))
noncomputable def KE:FM:=QN 3
  (QG (Q6 1 qX)
  (QG (JX (QP aE) nA
  Kj)
  (ZU aK)))
set_option maxHeartbeats 4000000 in
theorem GO(d:DefAt K mg "_law_rows" V9 cJ)(a:Cal P w K mg base 1 "_law_row" dE JJ):Cal P w K mg base 2 "_law_rows" cJ KE:=by
 refine Q4 (k:=1) (more:=3) d sc__law_rows rfl λf e A b s H E c=>?_;show dO g c;show bR;exact sc__law_rows.nd;show bH;show d8;exact Qd;show bE
 show iJ;show l5;show vE;refine Q8 sc__law_rows.nd rfl dA ?_ ?_;refine Q8 sc__law_rows.nd rfl dA ?_ ?_;exact VV
 show fK
 show fK
 show iK;show hX;show kD;exact sc__law_rows.nd;show bH;show bX;show bX;exact Qc _;show d8;show aB;show bX;exact Qj;show aT;refine VB Z1 ?_ (Z0 (Nb:=dE) (cp:=[nO]) rfl bB bB rfl rfl) ?_ cW cW;exact rfl;show l5;show j3;show cK c;show aT;exact rfl;show aN;show bE
 exact d7;show bM;exact Qc _
noncomputable def Vh:FM:=box frN KE
theorem Qad(d:DefAt K mg "_law_rows" V9 cJ)(a:Cal P w K mg base 1 "_law_row" dE JJ):Cal P w K mg base 2 "_law_rows" cJ Vh:=(GO d a).box frN
noncomputable abbrev ZV:Stmt:=top 52
theorem sc__law_names:FnScope Rs t9 (Qn ZV):=dG
noncomputable abbrev Vy:SM:=(QG (Q6 10 (Qi Zd (Qi Zd (mSl dS Ji (ZW dY)) (Qi wIx aV (Qi JL (Qi Zd (Qi V8 aE (mC (.int 9360))) (Qi JV dL mF)) vW))) (mSl dS (ZW dY) Ji)))
  (QG (Ju (QB (Qi pD Ri dF)) (Q6 10 (Qi Zd Ri (mC (.str "s")))) Q7)
  (VQ (mMt "list" ZI sC (Qb Ri Ql)))))
noncomputable def J4:FM:=QN 9
  (QG (Q6 2 Ha)
  (QG zS4
  (QG (Q6 3 (Qi Zd cB zU1))
  (QG (Q6 4 (mFn Xf Rm))
  (QG (Ju (QB (Qi wEq (Qi JL aE gQ) bC)) (ZU (Zc Jd (KA (Qb aK Ql)) zb4 d9 KS (Qi wIx aK (Qi JL (Qi Zd (Qi V8 aV gQ) aE) z5)))) Q7)
  (QG (Ju (QB (Qi wEq (Qi JL aE gQ) aM)) (ZU (Zc Jd (KA (Qb aK Ql)) tN d9 KS (Qi JV (Qi wIx aK (Qi JL (Qi V8 aV gQ) vW)) (Qi Zd aE aM)))) Q7)
  (QG (Q6 5 (Qi JL (Qi V8 aE gQ) iM))
  (QG (Q6 6 (Qi JL (Qi V8 aE zK5) (Qi Zd hY aM)))
  (QG (Q6 7 (mMt "str" Xp Bw (Qb (Zc Jd (KA gO) tN d9 KS (Qi wIx aK (Qi JL (Qi Zd (Qi V8 aV V0) (Qi JV (Qi JV gQ aE) aE)) vW))) Ql)))
  (QG (Q6 8 j9)
  (QG (JX (KA (Qb aK Ql)) (ZK 9)
  Vy)
  (ZU sC))))))))))))
set_option maxHeartbeats 4000000 in
theorem UO(d:DefAt K mg "_law_names" ZV t9)(b:tP):Cal P w K mg base 1 "_law_names" t9 J4:=by
 refine Q4 (k:=0) (more:=9) d sc__law_names rfl λf l A c s H E j=>?_;show dO e j;show bR;show qK;show yH;exact Qj;show bE
 show bR;show qK;show yH;show d8;show aB;exact Qj;show aB;exact Qj;show aB;exact Qj;show aB;exact Qj;show aB;exact Qj;show aB;exact Qj;show aB;exact Qj;show aB;exact Qj;show aB;exact Qj;show aB;exact Qj;show aB;exact Qj;show aB;exact Qj;show aB;show dV;show bE
 show bR;show qK;show yH;show bX;exact Qc _;show d8;show aB;exact Qj;show aB;exact Qj;show aB;show dV;show bE
 show bR;show qK;show bH;show eG;show aB;exact Qj;show aB;exact Qj;show aB;exact Qj;show aB;exact Qj;show aB;exact Qj;show aB;exact Qj;show aB;exact Qj;show aB;exact Qj;show aB;exact Qj;show aB;exact Qj;show aB;exact Qj;show aB;show dV;show bE
 show cU;show dP e;show i8;show dH;exact Qf;show bM;refine VB Z1 ?_ (Ur (ks:=["number","near"]) (Nb:=["k","near","number"]) (cp:=zb4) (N:=Rs) (xs:=(Qn ZV)) rfl rfl bB rfl bB (by show vB p a;show Tc) rfl rfl rfl bB) ?_ cW cW;exact rfl;show o9;show cC;show aB;show aT;exact rfl;show j3;show gC;show i8;show bX;show qP;show dH;show dH;exact QA;show cU;show dP e;show i8;show dH;exact Qf;show bM;refine VB Z1 ?_ (Ur (ks:=["number","letters"]) (Nb:=jz3) (cp:=tN) (N:=Rs) (xs:=(Qn ZV)) rfl rfl bB rfl bB (by show vB p a;show Tc) rfl rfl rfl bB) ?_ cW cW;exact rfl;show o9;show cC;show aB;show aT;exact rfl;show j3;show lX;show gC;show jK;exact Qf;show bX;show dH;exact QA;show bR;show qK;show bH;show jK;exact Qf;show bE
 show bR;show qK;show bH;show jK;show bX;show dH;show bE
 show bR;show qK;show bH;show vA;show aB;refine VB Z1 ?_ (Ur (ks:=["number","letters"]) (Nb:=jz3) (cp:=tN) (N:=Rs) (xs:=(Qn ZV)) rfl rfl bB rfl bB (by show vB p a;show Tc) rfl rfl rfl bB) ?_ cW cW;exact rfl;show o9;show cC;show aB;show aT;exact rfl;show j3;show gC;show i8;show bX;show qP;show dH;show lX;show lX;show BR;show dH;exact Qd;show bE
 show bR;show qK;show bH;show kG;show bE
 show iJ;show o9;show cC;show aB;show aT;exact rfl;exact QM sc__law_names.nd rfl dA;show bR;show qK;show bH;show bX;show bX;show AJ;show gC;show i8;show bX;show qP;show dH;show lX;exact Qf;show dH;show jM;show MN;show bE
 show cU;show vD e;show yZ;show hX;show kD;show qK;show bH;show bX;show lY;show bE
 exact QA;show kX;show aB;show aT;exact d7;show bM;exact Qc _
noncomputable def QU:FM:=box frN J4
theorem UF(d:DefAt K mg "_law_names" ZV t9)(a:tP):Cal P w K mg base 1 "_law_names" t9 QU:=(UO d a).box frN
noncomputable abbrev JN:Stmt:=top 56
theorem sc__law_sized:FnScope ["parts","number","names","size","line"] nZ (Qn JN):=dG
noncomputable abbrev VD(a:FM):SM:=(Ju (QB (Qi wEq (Qi wIx dF bC) qJ)) (Q6 3 (Qi Zd (Qi Zd cB aM) (QD 2 a (Qb aE (Qb (mMt "list" Qa3 aV (Qb (Qi wIx dF aM) Ql)) Ql))))) (Q6 3 (Qi Zd cB aM)))
noncomputable def Ke(a:FM):FM:=QN 3
  (QG (Q6 2 (Zc Jd (QP aE) [nO] d9 KS (Qi wIx aE bC)))
  (QG (Q6 3 bC)
  (QG (JX (QP (Qi wIx (Qi wIx aE aK) aM)) EQ
  (VD a))
  (ZU cB))))
set_option maxHeartbeats 4000000 in
theorem UV{k:Nat}{a:FM}(i:0<=k)(d:DefAt K mg "_law_sized" JN nZ)(c:Cal P w K mg base k "_law_sized" nZ a):Cal P w K mg base (k+1) "_law_sized" nZ (Ke a):=by
 refine Q4 (k:=k) (more:=3) d sc__law_sized rfl λf h A b s H E g=>?_;show dO e g;show jW;refine W8 sc__law_sized.nd rfl dA ?_ Z1 ?_ (Z0 (Nb:=["part"]) (cp:=[nO]) rfl bB bB rfl rfl) ?_ cW cW ?_ ?_
 show fK
 exact rfl;show l5;show j3;show bO;exact d7;exact rfl;show bR;exact sc__law_sized.nd;show bH;exact Qf;show bE
 show iJ;refine ZT ?_;show jB;show gC;show dH;exact QM sc__law_sized.nd rfl dA;show mO;show dP e;show bO;exact Qj;show hX;show kD;exact sc__law_sized.nd;show bH;show bX;show bX;show dH;refine je6;exact g.mono bL;exact rfl;show aB;exact Qc _;show aB;refine Jj NH LQ PySem.F.type_list_index (Qfl ?_) ?_ ?_;exact e;exact Qc _;show aB;show bO;exact Qd;show fP;show aN;show bE
 show hX;show kD;exact sc__law_sized.nd;show bH;show bX;show dH;show bE
 exact d7;show bM;exact Qc _
noncomputable def Z3:Nat->FM
 |0=>QN 3 λ_ _=>nO
 |n+1=>box frN (Ke (Z3 n))
theorem UI(d:DefAt K mg "_law_sized" JN nZ):∀n,Cal P w K mg base (1+n) "_law_sized" nZ (Z3 n):=by
 intro n
 induction n with
 |zero=>
  exact Q4 (k:=0) (more:=3) d sc__law_sized rfl λ_ _ _ _ _ _ _ _=>QeP
 |succ n a=>
  exact(UV (k:=1+n) bL d (a)).box frN
noncomputable def JP:FM:=Z3 6
theorem UG(d:DefAt K mg "_law_sized" JN nZ):Cal P w K mg base 7 "_law_sized" nZ JP:=UI d 6
noncomputable abbrev J7:Stmt:=top 54
theorem sc__law_closed:FnScope ["waiting","lines","word"] zP (Qn J7):=dG
noncomputable abbrev KQ:SM:=(QG (Ju (QB (Qi wEq aV sV)) (VQ (mMt "list" ZI aK (Qb (mFn Xf (Qb yQ Ql)) Ql))) Q7)
  (VQ (mMt "list" ZI aK (Qb (mFn Xf (Qb yK Ql)) Ql))))
noncomputable def JI:FM:=QN 2
  (QG (Q6 1 j9)
  (QG (JX (Qmw (Qb aE Ql)) Aw
  KQ)
  (ZU aK)))
set_option maxHeartbeats 4000000 in
theorem WW(d:DefAt K mg "_law_closed" J7 zP)(a:Uf):Cal P w K mg base 1 "_law_closed" zP JI:=by
 refine Q4 (k:=0) (more:=2) d sc__law_closed rfl λf g A b s H E e=>?_;show dO c e;show bR;exact sc__law_closed.nd;show bH;show kG;show bE
 show iJ;refine Qlm ?_ ?_ ?_ ?_;show cC;show aB;show aT;exact rfl;exact QM sc__law_closed.nd rfl dA;show cU;show dP c;show lY;show kX;show aB;show eG;show aB;show dV;exact Qd;exact QA;show kX;show aB;show eG;show aB;show dV;exact Qd;exact d7;show bM;exact Qc _
noncomputable def Z2:FM:=box frN JI
theorem WZ(d:DefAt K mg "_law_closed" J7 zP)(a:Uf):zo5:=(WW d a).box frN
noncomputable abbrev VY:Stmt:=top 53
theorem sc__law_line:FnScope ["number","boxes","words","x","y","z","way"] sQ (Qn VY):=dG
noncomputable def QO:FM:=QN 4
  (QG (Q6 3 (Qi wIx aK (Qi JL (Qi V8 aE z5) (mFn JT (Qb aK Ql)))))
  (QG (Q6 4 (Qi wIx aK (Qi JL (Qi V8 aE (mC (.int 160))) (mFn JT (Qb aK Ql)))))
  (QG (Q6 5 (Qi wIx aK (Qi JL (Qi V8 aE (mC (.int 1600))) (mFn JT (Qb aK Ql)))))
  (QG (Q6 6 (Qi JL aE z5))
  (QG (Ju (QB (Qi wGt dY (mC (.int 9)))) (Q6 6 (Qi JL (Qi V8 aE (mC (.int 64))) zK6)) Q7)
  (QG (Ju (QB (Qi wLt dY dL)) (ZU (mFn Xf (Qb mU (Qb cB (Qb (Qi wIx aV (Qi JL (Qi V8 aE (mC (.int 16000))) (mFn JT (Qb aV Ql)))) (Qb dF gO)))))) Q7)
  (QG (Ju (QB (Qi wLt dY gQ)) (ZU (mFn Xf (Qb B7 (Qb cB (Qb dF Ql))))) Q7)
  (QG (Ju (QB (Qi wEq dY gQ)) (ZU (mFn Xf (Qb B5 (Qb cB (Qb dF Ql))))) Q7)
  (QG (Ju (QB (Qi wEq dY pB)) (ZU (mFn Xf (Qb HG (Qb cB (Qb dF Ql))))) Q7)
  (QG (Ju (QB (Qi wEq dY zc1)) (ZU (mFn Xf (Qb vM (Qb cB Ql)))) Q7)
  (ZU (mFn Xf (Qb Tb (Qb dF Ql))))))))))))))
set_option maxHeartbeats 4000000 in
theorem G8(d:DefAt K mg "_law_line" VY sQ)(c:dR):Cal P w K mg base 1 "_law_line" sQ QO:=by
 refine Q4 (k:=0) (more:=4) d sc__law_line rfl λf g A a s H E e=>?_;show dO b e;show bR;show Mm;show bH;show gC;show jK;show eJ;show aB;show aT;decide;show aN;show bE
 show bR;show Mm;show bH;show gC;show jK;show eJ;show aB;show aT;decide;show aN;show bE
 show bR;show Mm;show bH;show gC;show jK;show eJ;show aB;show aT;decide;show aN;show bE
 show bR;show Mm;show bH;show i8;show dH;show bE
 show cU;show p6;show dH;show hX;show kD;show Mm;show bH;show jK;exact Qf;show bE
 exact QA;show cU;refine Mh;show dH;show bM;show eG;show aB;exact Qj;show aB;exact Qc _;show aB;show gC;show jK;show eJ;show aB;show aT;decide;show aN;show aB;exact Qc _;show aB;show aT;exact QA;show cU;refine Mh;show dH;show bM;show eG;show aB;exact Qj;show aB;exact Qc _;show aB;show aT;exact QA;show cU;show dP b;show dH;show bM;show eG;show aB;exact Qj;show aB;exact Qc _;show aB;show aT;exact QA;show cU;show dP b;show dH;show bM;show eG;show aB;exact Qj;show aB;exact Qc _;show aB;show aT;exact QA;show cU;show dP b;show dH;show bM;show eG;show aB;exact Qj;show aB;show aT;exact QA;show bM;show eG;show aB;exact Qj;show aB;show aT
noncomputable def JG:FM:=box frN QO
theorem GA(d:DefAt K mg "_law_line" VY sQ)(a:dR):Cal P w K mg base 1 "_law_line" sQ JG:=(G8 d a).box frN
noncomputable abbrev Vq:Stmt:=top 55
theorem sc__law_lines:FnScope ["numbers","boxes","words","others","deep","left","lines","waiting","number","way"] sM (Qn Vq):=dG
noncomputable abbrev XT:SM:=(QG (Q6 9 (Qi JL sC z5))
  (Ju (KG (QB (Qi pD mF (mFn Xf (Qb zK6 (Qb vX Ql))))) (QB (Qi wLt (mFn JT (Qb dS Ql)) dF))) (QG (VQ (mMt "list" ZI dS (Qb (Qi wIx (mFn JB (Qb sV (Qb HC Ql))) (mFn Qg9 (Qb (Qi wEq mF vX) Ql))) Ql)))
  (VQ (mMt "list" ZI dY (Qb (mFn Xf (Qb (Qi wIx dS (mUn GM aM)) Ql)) Ql)))) (Ju (KG (QB (Qi pD mF zY0)) (KG (QB (Qi wNe dS qX)) (QB (Qi wEq (Qi wIx dS (mUn GM aM)) sV)))) (QG (Qc3 dS (mUn GM aM) yQ)
  (VQ (mMt "list" ZI dY (Qb (mFn Xf (Qb yQ Ql)) Ql)))) (Ju (KG (QB (Qi pD mF zY0)) (QB (Qi wNe dS qX))) (QG (VQ (mMt "list" QoR dS Ql))
  (VQ (mMt "list" ZI dY (Qb (mFn Xf (Qb yK Ql)) Ql)))) (Ju (KG (QB (Qi wGt mF (mC (.int 13)))) (KG (QB (Qi wNe cB qX)) (QB (Qi wGt (Qi wIx hY bC) bC)))) (QG (Qc3 hY bC (Qi Qig (Qi wIx hY bC) aM))
  (VQ (mMt "list" ZI dY (Qb (mFn Xf (Qb qJ (Qb (Qi wIx cB (Qi JL (Qi V8 sC z5) (mFn JT (Qb cB Ql)))) Ql))) Ql)))) (VQ (mMt "list" ZI dY (Qb (QD 3 JG (Qb sC (Qb aK (Qb aV Ql)))) Ql))))))))
noncomputable def Kg:FM:=QN 4
  (QG (Q6 6 j9)
  (QG (Q6 7 j9)
  (QG (JX (QP aE) (ZK 8)
  XT)
  (ZU (mFn J8 (Qb (Qi Zd dY (QD 1 Z2 (Qb dS Ql))) Ql))))))
set_option maxHeartbeats 4000000 in
theorem UT(d:DefAt K mg "_law_lines" Vq sM)(j:C1)(i:dR)(e:jP)(a:zo5)(b:Cal P w K mg base 1 "_law_line" sQ JG):Cal P w K mg base 2 "_law_lines" sM Kg:=by
 refine Q4 (k:=1) (more:=4) d sc__law_lines rfl λf l A g s H E h=>?_;show dO c h;show bR;exact sc__law_lines.nd;show bH;show kG;show bE
 show bR;exact sc__law_lines.nd;show bH;show kG;show bE
 show iJ;show l5;exact QM sc__law_lines.nd rfl dA;show bR;exact sc__law_lines.nd;show bH;show i8;show dH;show bE
 show mO;show qC;show vD c;exact Qc _;show eG;show aB;exact Qf;show aB;show pF;show sG;refine Mh;show eJ;show aB;show aT;decide;show aN;exact Qc _;show jW;show xZ;exact Qc _;show aB;show jB;show d8;show aB;exact Qj;show aB;show dV;refine zs3;show cC;show aB;show AV c;show dH;show fS;show aN;exact Qd;show kX;show aB;show eG;show aB;show gC;show oA;show zU;show mO;show qC;show vD c;exact Qc _;show eG;show aB;exact Qf;show aB;show pF;refine VI ?_ ?_;show qD c;exact Qc _;show d8;exact Qd;show sG;show dP c;show gC;show oA;exact Qj;show jW;refine YP Y6;exact Qc _;show oA;exact Qj;exact d7;show iK;show kX;show aB;show eG;show aB;show dV;exact Qd;show mO;show qC;show vD c;exact Qc _;show eG;show aB;exact Qf;show aB;show pF;show sG;show qD c;exact Qc _;show d8;exact Qd;show jW;show jh2;show kX;show aB;show eG;show aB;show dV;exact Qd;show mO;show qC;show p6;show dH;refine VI ?_ ?_;show qD c;exact Qc _;show d8;exact Qd;show sG;show p6;show bO;exact Qf;show jW;refine YP Y6;show dH;refine zK7;show bO;exact Qf;exact d7;show iK;show kX;show aB;show eG;show aB;exact Qj;show aB;show gC;show jK;show eJ;show aB;show aT;decide;show aN;show zU;show kX;show aB;show cK h;exact Qc _;show aB;exact Qc _;show aB;show aT;exact rfl;show aN;exact Qd;exact d7;show bM;show oV;show cC;show aB;show bX;exact Qc _;show cK h;show aT;exact rfl;show aN;show fS;show aN
noncomputable def JM:FM:=box frN Kg
theorem UU(d:DefAt K mg "_law_lines" Vq sM)(f:C1)(e:dR)(c:jP)(a:zo5)(b:Cal P w K mg base 1 "_law_line" sQ JG):Cal P w K mg base 2 "_law_lines" sM JM:=(UT d f e c a b).box frN
noncomputable abbrev ZQ:Stmt:=top 57
theorem sc__law_program:FnScope zm4 vR (Qn ZQ):=dG
noncomputable abbrev ZM:SM:=(QG (Q6 11 (Zc Jd (KA (Qb dS Ql)) Hq d9 (QB (Qi wEq (Qi V8 (Qi JV aE dF) cB) aV)) (QD 2 Qw (Qb aK (Qb (Qi Zd iT aE) Ql)))))
  (VQ (mMt "list" ZI mF (Qb (mFn Xf (Qb (Qi wIx dY Ri) (Qb (QD 6 JM (Qb (Qe 11) (Qb dF (Qb hY (Qb (mSl dY (ZW (Qi Zd Ri aM)) Ji) (Qb (Qi Zd aM (mFn Qg9 (Qb (Qi wLt cB iT) Ql))) (Qb sC Ql))))))) Ql))) Ql))))
noncomputable def Vc:FM:=QN 12
  (QG (Q6 2 (Zc Jd (KA (Qb iT Ql)) PC d9 KS (QD 2 Qw (Qb aK (Qb aE Ql)))))
  (QG (Q6 3 (Qi wIx (mFn JB (Qb aM (Qb aM (Qb bY (Qb bY (Qb dL (Qb dL (Qb bY (Qb gQ Ql))))))))) (Qi JL (Qi wIx aV bC) iM)))
  (QG (Q6 4 (QD 2 QU (Qb (Qi V8 (Qi wIx aV aM) iM) (Qb (Qi wIx (mFn JB (Qb aM (Qb bY (Qb bY (Qb dL (Qb dL (Qb bY (Qb dL (Qb gQ Ql))))))))) (Qi JL (Qi wIx aV aM) iM)) Ql))))
  (QG (Q6 5 (QD 2 QU (Qb (Qi V8 (Qi wIx aV bY) iM) (Qb (Qi wIx (mFn JB (Qb aM (Qb bY (Qb bY (Qb dL (Qb aM (Qb bY (Qb dL (Qb gQ Ql))))))))) (Qi JL (Qi wIx aV bY) iM)) Ql))))
  (QG (Q6 6 (QD 2 QU (Qb (Qi wIx aV dL) (Qb cB Ql))))
  (QG (Q6 7 (mFn Qhw (Qb (mFn QmL (Qb (Qi Qig (mFn JT (Qb aE Ql)) iT) (Qb aK Ql))) (Qb (Qi Zd dL (Qi JL (Qi V8 (Qi wIx aV bC) iM) pB)) Ql))))
  (QG (Q6 8 (mFn WE (Qb (Qi wIx (mFn JB (Qb dL (Qb aM Ql))) (mFn Qg9 (Qb (Qi wGt dS vX) Ql))) Ql)))
  (QG (Q6 9 j9)
  (QG (JX (KA (Qb cB Ql)) (ZK 10)
  ZM)
  (QG (Q6 12 (Qi QbZ (mFn Xf (Qb (mFn Xf (Qb qJ (Qb (Qi wIx dY (mUn GM aM)) Ql))) Ql)) (Qi Zd bY (Qi JL (Qi V8 (Qi wIx aV dL) zc1) iT))))
  (QG (Q6 13 (Qi Zd (mFn Xf (Qb (mFn Xf (Qb (Qi wIx dY bC) (Qb (Qi Zd (Qe 12) (Qi wIx (Qi wIx mF bC) aM)) Ql))) Ql)) (mFn J8 (Qb (mSl mF (ZW aM) Ji) Ql))))
  (QG (Ju (KG (QB (Qi wGt cB aM)) (KG (QB (Qi wEq (Qi JL (Qi V8 (Qi wIx aV bY) (mC (.int 64))) iT) bC)) (QB (Qi wLt (QD 2 JP (Qb (Qe 13) (Qb bC Ql))) (mC (.int 20)))))) (ZU (Qe 13)) Q7)
  (ZU (mFn J8 (Qb mF Ql)))))))))))))))
set_option maxHeartbeats 4000000 in
theorem WB(d:DefAt K mg "_law_program" ZQ vR)(t:C1)(r:dR)(o:NE)(n:mg "min"=nO)(l:tP)(j:jP)(e:Cal P w K mg base 2 "_law_lines" sM JM)(c:AK)(b:Cal P w K mg base 1 "_law_names" t9 QU)(a:Cal P w K mg base 7 "_law_sized" nZ JP):Cal P w K mg base 8 "_law_program" vR Vc:=by
 refine Q4 (k:=7) (more:=12) d sc__law_program rfl λf B A m s H E g=>?_;show dO u g;show jW;refine W8 sc__law_program.nd rfl dA ?_ Z1 ?_ (Ur (ks:=u6) (Nb:=["k","script"]) (cp:=PC) (N:=zm4) (xs:=(Qn ZQ)) rfl rfl bB rfl bB (by show vB p h;rcases h with rfl<;>rfl) rfl rfl rfl bB) ?_ cW cW ?_ ?_
 show fK
 exact rfl;show o9;show cC;show aB;exact Qf;show fP;show j3;show cK g;exact Qc _;show aB;show aT;exact rfl;show aN;exact d7;exact rfl;show bR;show sY;show yH;show jB;show d8;show aB;exact Qf;show aB;exact Qf;show aB;exact Qf;show aB;exact Qf;show aB;exact Qf;show aB;exact Qf;show aB;exact Qf;show aB;show pF;show i8;show bO;exact Qf;show bE
 show bR;show sY;show bH;show cK g;show qP;show bO;exact Qf;show aB;show jB;show d8;show aB;exact Qf;show aB;exact Qf;show aB;exact Qf;show aB;exact Qf;show aB;exact Qf;show aB;exact Qf;show aB;exact Qf;show aB;show pF;show i8;show bO;exact Qf;show fP;show aN;show bE
 show bR;show sY;show bH;show cK g;show qP;show bO;exact Qf;show aB;show jB;show d8;show aB;exact Qf;show aB;exact Qf;show aB;exact Qf;show aB;exact Qf;show aB;exact Qf;show aB;exact Qf;show aB;exact Qf;show aB;show pF;show i8;show bO;exact Qf;show fP;show aN;show bE
 show bR;show sY;show bH;show cK g;show bO;show aB;show aT;exact rfl;show aN;show bE
 show bR;show sY;show yH;show zp2;show cC;show aB;refine Qv (Qfe ?_) Qo ?_ ?_ PyProof.Rows.boot_min ?_ ?_ ?_ ?_ ?_;exact rfl;show cC;show aB;refine zK7;show eJ;show aB;show aT;decide;show aN;exact Qf;show aB;show aT;decide;show aN;show aB;show bX;exact Qf;show i8;show qP;show bO;show Ci;show fS;show aN;show bE
 show bR;show sY;show bH;refine VG ?_;show aB;show jB;show d8;show aB;exact Qf;show aB;show pF;refine zs3;show cC;show aB;refine Xo Kx Qh ?_ ?_;show dH;show fS;show aN;exact Qd;show bE
 show bR;show sY;show bH;show kG;show bE
 show iJ;show o9;show cC;show aB;show aT;exact rfl;exact QM (i:=10) (x:="k") sc__law_program.nd rfl zd7;show jW;refine QaG sc__law_program.nd rfl dA ?_ Z1 ?_ (Ur (ks:=["script","many","k","count"]) (Nb:=["j","script","k","count","many"]) (cp:=Hq) (N:=zm4) (xs:=(Qn ZQ)) rfl rfl bB rfl bB (by show vB p h;rcases h with rfl|rfl|rfl|rfl<;>rfl) rfl rfl rfl bB) ?_ cW cW cW ?_ ?_
 show fK
 exact rfl;show o9;show cC;show aB;show aT;exact rfl;show j3;show dP u;show qP;show lX;show yZ;show yZ;show cK g;exact Qc _;show aB;show bX;exact Qf;show aT;exact rfl;show aN;exact d7;exact rfl;show kX;show aB;show eG;show aB;show gC;exact Qc _;show aB;show cK g;exact Qc _;show aB;exact Qc _;show aB;exact Qc _;show aB;show jM;show bX;show dH;exact Zf;show aB;show bX;exact Qf;refine zs3;show cC;show aB;refine Xo U9 Qh ?_ ?_;show dH;show fS;show aN;show aB;show aT;exact rfl;show aN;show zU;exact d7;show bR;show sY;show bH;refine Qs Qhr Qh ?_ ?_;show eG;show aB;show eG;show aB;exact Qj;show aB;show gC;show oA;show zU;show bX;exact Qf;show i8;show qP;show bO;show Ci;show bE
 show bR;show sY;show bH;show bX;show eG;show aB;show eG;show aB;show bO;show aB;show bX;exact Qc _;show jB;show bO;show pF;exact Qd;show oV;show cC;show aB;show jM;show wL;show fS;show aN;show bE
 show cU;show qC;show p6;show dH;refine VI ?_ ?_;show dP u;show i8;show qP;show bO;show Ci;exact Qf;show sG;refine Mh;show cK g;exact Qc _;show aB;exact Qf;show fP;show aN;exact Qf;show bM;exact Qc _;exact QA;show bM;show oV;show cC;show aB;show aT;decide;show aN
noncomputable def Z8:FM:=box frN Vc
theorem Wz(d:DefAt K mg "_law_program" ZQ vR)(l:C1)(j:dR)(i:NE)(h:mg "min"=nO)(g:tP)(f:jP)(e:Cal P w K mg base 2 "_law_lines" sM JM)(c:AK)(b:Cal P w K mg base 1 "_law_names" t9 QU)(a:Cal P w K mg base 7 "_law_sized" nZ JP):Cal P w K mg base 8 "_law_program" vR Z8:=(WB d l j i h g f e c b a).box frN
noncomputable abbrev ZX:Stmt:=top 13
theorem YK:FnScope rN rN (Qn ZX):=dG
noncomputable def Jh:FM:=QN 0
  (ZU (XJ wLe wLe zI2 aE zI3))
set_option maxHeartbeats 4000000 in
theorem Yo(d:DefAt K mg "is_small_letter" ZX rN):Cal P w K mg base 1 "is_small_letter" rN Jh:=by
 refine Q4 (k:=0) (more:=0) d YK rfl λf c A a s H E b=>?_;show dO e b;show bM;refine QhF YQ Qh YQ Qh ?_ ?_ ?_;exact Qj;show lY
noncomputable def QV:FM:=box frN Jh
theorem Yz(d:DefAt K mg "is_small_letter" ZX rN):zo2:=(Yo d).box frN
noncomputable abbrev Kr:Stmt:=top 12
theorem Qea:FnScope cY cY (Qn Kr):=dG
noncomputable def VJ:FM:=QN 0
  (QG (Ju (VN (KW (mFn QcG (Qb aE jt2)))) hA Q7)
  (QG (Ju (VN (QB (XJ wLe wLe aM (mFn JT (Qb aE Ql)) (mC Zt)))) hA Q7)
  (ZU (QcR (mFn Qap (Qb (Zc Jd (QP aE) [nO] d9 KS (QD 1 QV (Qb aE Ql))) Ql)) (Qi (wIn true) aE (mC Ys))))))
set_option maxHeartbeats 4000000 in
theorem QbV(d:DefAt K mg "is_name" Kr cY)(e:Glob K mg "KEPT" Ys)(a:jr1)(j:oJ)(c:qF)(i:dR)(g:zg9)(b:zo2):Cal P w K mg base 2 "is_name" cY VJ:=by
 refine Q4 (k:=1) (more:=0) d Qea rfl λf n A h s H E l=>?_;show dO m l;show cU;show j5;show v3;show cC;show aB;exact Qc _;show aB;exact QaA rfl g OA;show fS;show aN;show bM;show i9;show cU;show jf4;show eJ;show aB;show aT;decide;show aN;show p' a;show bM;show i9;show bM;show pL;show AM;show cC;show aB;refine VB Z1 ?_ (Z0 (Nb:=rN) (cp:=[nO]) rfl bB bB rfl rfl) ?_ cW cW;exact rfl;show l5;show j3;show cK l;show aT;exact rfl;show aN;show fS;show aN;show xT;refine Xo (QeO ?_) Qh ?_ ?_;exact m;exact Qc _;show p' e
noncomputable def Zi:FM:=box frN VJ
theorem Qb3(d:DefAt K mg "is_name" Kr cY)(e:Glob K mg "KEPT" Ys)(b:jr1)(h:oJ)(c:qF)(g:dR)(f:zg9)(a:zo2):Cal P w K mg base 2 "is_name" cY Zi:=(QbV d e b h c g f a).box frN
noncomputable abbrev J2:Stmt:=top 47
theorem UE:FnScope gV gV (Qn J2):=dG
noncomputable def QZ:FM:=QN 0
  (ZU (QcR (Qi wEq (mFn JT (Qb aE Ql)) bY) (QcR (Qi wEq (Qi wIx aE bC) HI) (QD 1 Zi (Qb (Qi wIx aE aM) Ql)))))
set_option maxHeartbeats 4000000 in
theorem Ub(d:DefAt K mg "is_part_row" J2 gV)(c:dR)(a:Cal P w K mg base 2 "is_name" cY Zi):Cal P w K mg base 3 "is_part_row" gV QZ:=by
 refine Q4 (k:=2) (more:=0) d UE rfl λf h A b s H E g=>?_;show dO e g;show bM;show pL;show AV e;show eJ;show aB;show aT;decide;show aN;exact Qf;show pL;show AV e;show bO;exact Qj;show xT;show cK g;show bO;show fP;show aN
noncomputable def QS:FM:=box frN QZ
theorem Ut(d:DefAt K mg "is_part_row" J2 gV)(b:dR)(a:Cal P w K mg base 2 "is_name" cY Zi):Cal P w K mg base 3 "is_part_row" gV QS:=(Ub d b a).box frN
noncomputable abbrev ZC:Stmt:=top 40
theorem sc_has_right_names:FnScope jc2 jE (Qn ZC):=dG
noncomputable abbrev ZF:SM:=(QG (Q6 4 (mSl aK (ZW (Qi Zd aV aM)) Ji))
  (Ju (VN (KW (mFn Qap (Qb (Zc Jd (QP (Qi wIx cB aM)) [nO,sO 4] d9 (QB (Qi wEq (Qi wIx aE bC) qJ)) (Qi pD (Qi wIx aE aM) aK)) Ql)))) hA Q7))
noncomputable def Vf:FM:=QN 4
  (QG (Q6 1 (Zc Jd (QP aE) [nO] d9 KS (Qi wIx aE bC)))
  (QG (Ju (QB (Qi wNe (mFn Qam (Qb aK Ql)) (mFn JT (Qb aK Ql)))) hA Q7)
  (QG (JX (Qda (Qb aE Ql)) nA
  ZF)
  zy6)))
set_option maxHeartbeats 4000000 in
theorem YB(d:DefAt K mg "has_right_names" ZC jE)(h:oJ)(a:HW)(g:dR)(e:r6):Cal P w K mg base 1 "has_right_names" jE Vf:=by
 refine Q4 (k:=0) (more:=4) d sc_has_right_names rfl λf m A b s H E j=>?_;show dO c j;show jW;refine W8 sc_has_right_names.nd rfl dA ?_ Z1 ?_ (Z0 (Nb:=["part"]) (cp:=[nO]) rfl bB bB rfl rfl) ?_ cW cW ?_ ?_
 show fK
 exact rfl;show l5;show j3;show bO;exact d7;exact rfl;show cU;show qD c;refine Qgf ?_ ?_ ?_ ?_ ?_ ?_ ?_;exact rfl;show cC;show cC;exact Qc _;exact rfl;show eJ;show aB;show aT;decide;show aN;show bM;show i9;show iJ;refine QhX ?_ ?_ ?_ ?_;show cC;show aB;show aT;exact rfl;show vE;refine Q8 sc_has_right_names.nd rfl dA ?_ ?_;refine Q8 sc_has_right_names.nd rfl dA ?_ ?_;exact VV
 show fK
 show fK
 show iK;show bR;exact sc_has_right_names.nd;show yH;show jM;show bX;show dH;exact Zf;show bE
 show mO;show j5;show AM;show cC;show aB;refine YS Z1 ?_ (Ur (ks:=["behind"]) (Nb:=["line","behind"]) (cp:=[nO,sO 4]) (N:=jc2) (xs:=(Qn ZC)) rfl rfl bB rfl bB (by show vB p i;rcases i with rfl<;>rfl) rfl rfl rfl bB) ?_ cW cW cW;show M7;show bO;show j3;show dP c;show bO;exact Qj;refine Xo (YV ?_) Qh ?_ ?_;exact c;show bO;show aT;decide;show aN;show bM;show i9;exact d7;show bM;exact Xy
noncomputable def Zh:FM:=box frN Vf
theorem Yn(d:DefAt K mg "has_right_names" ZC jE)(e:oJ)(a:HW)(c:dR)(b:r6):Cal P w K mg base 1 "has_right_names" jE Zh:=(YB d e a c b).box frN
noncomputable abbrev JH:Stmt:=top 21
theorem W1:FnScope dE dE (Qn JH):=dG
noncomputable def ZD:FM:=QN 0
  (QG (Ju (UW (QB (Qi wEq (Qi wIx aE bC) sV)) (QB (Qi wEq (Qi wIx aE bC) HC))) (ZU aM) Q7)
  (ZU (mIf (QB (Qi wEq (Qi wIx aE bC) yK)) (mUn GM aM) bC)))
set_option maxHeartbeats 4000000 in
theorem WA(d:DefAt K mg "level_change" JH dE):Cal P w K mg base 1 "level_change" dE ZD:=by
 refine Q4 (k:=0) (more:=0) d W1 rfl λf e A a s H E c=>?_;show dO b c;show cU;show lO;show dP b;show bO;exact Qj;show mE;show dP b;show bO;exact Qj;show bM;exact Qf;exact QA;show bM;refine MB;show dP b;show bO;exact Qj;show oA;exact Qf
noncomputable def JE:FM:=box frN ZD
theorem Ww(d:DefAt K mg "level_change" JH dE):Cal P w K mg base 1 "level_change" dE JE:=(WA d).box frN
noncomputable abbrev X9:Stmt:=top 27
theorem Qbl:FnScope yU yU (Qn X9):=dG
noncomputable def ZY:FM:=QN 0
  (QG (Ju (QB (Qi wEq (Qi wIx aE bC) qJ)) (ZU (mMt "dict" QiJ aK (Qb (Qi wIx aE aM) (Qb (mC Vx) Ql)))) Q7)
  (ZU (mIf (QB (Qi wEq (Qi wIx aE bC) yJ)) (mFn Xf (Qb bC (Qb aM (Qb bC (Qb bC Ql))))) (mFn Xf (Qb aM (Qb bC (Qb bC (Qb bC Ql))))))))
set_option maxHeartbeats 4000000 in
theorem Qai(d:DefAt K mg "line_size" X9 yU)(a:Glob K mg "UNENTERED_DO" Vx):Cal P w K mg base 1 "line_size" yU ZY:=by
 refine Q4 (k:=0) (more:=0) d Qbl rfl λf g A b s H E e=>?_;show dO c e;show cU;show dP c;show bO;exact Qj;show bM;refine Jj PySem.F.plainAttrs_dict Os PySem.F.type_dict_get (QiB ?_) ?_ ?_;exact c;exact Qc _;show aB;show bO;show aB;show p' a;exact Qd;exact QA;show bM;refine MB;show dP c;show bO;exact Qj;show eG;show aB;exact Qf;show aB;exact Qf;show aB;exact Qf;show aB;show pF;show eG;show aB;exact Qf;show aB;exact Qf;show aB;exact Qf;show aB;show pF
noncomputable abbrev X1:Stmt:=top 26
theorem sc_size_with:FnScope ["lines","sizes","plain","backs","level","deepest","ways","line","inner"] HX (Qn X1):=dG
noncomputable abbrev Kb:SM:=(QG (Qjn 4 Qcf (QD 1 JE (Qb dS Ql)))
  (QG (Q6 8 (QD 2 ZY (Qb dS (Qb aK Ql))))
  (QG (Qjn 2 Qcf (Qi wIx sC bC))
  (QG (Qjn 3 Qcf (Qi wIx sC aM))
  (QG (Q6 5 (mFn Qhw (Qb hY (Qb (Qi Zd dF (Qi wIx sC bY)) Ql))))
  (Qjn 6 Qcf (Qi wIx sC dL)))))))
noncomputable def Q0:FM:=QN 7
  (QG (Q6 2 bC)
  (QG (Q6 3 bC)
  (QG (Q6 4 bC)
  (QG (Q6 5 bC)
  (QG (Q6 6 aM)
  (QG (JX (QP aE) (ZK 7)
  Kb)
  (ZU (mFn Xf (Qb aV (Qb cB (Qb hY (Qb dY Ql))))))))))))
set_option maxHeartbeats 4000000 in
theorem Gx(d:DefAt K mg "size_with" X1 HX)(g:NE)(a:Cal P w K mg base 1 "level_change" dE JE)(b:Cal P w K mg base 1 "line_size" yU ZY):Fr:=by
 refine Q4 (k:=1) (more:=7) d sc_size_with rfl λf h A c s H E e=>?_;show dO i e;show bR;show p7;show bH;exact Qf;show bE
 show bR;show p7;show bH;exact Qf;show bE
 show bR;show p7;show bH;exact Qf;show bE
 show bR;show p7;show bH;exact Qf;show bE
 show bR;show p7;show bH;exact Qf;show bE
 show iJ;show l5;exact QM sc_size_with.nd rfl dA;show jW;refine Sk;show p7;show bH;show cK e;show aT;exact rfl;decide;exact rfl;show bE
 show bR;show p7;show bH;show cK e;exact Qc _;show aB;show aT;exact rfl;show aN;show bE
 show jW;refine Sk;show p7;show bH;show bO
 show fK
 show jW;refine Sk;show p7;show bH;show bO
 show fK
 show bR;show p7;show bH;show zp2;show cC;show aB;exact Qc _;show aB;show bX;exact Qc _;show bO;show fS;show aN;show bE
 show hX;refine Sk;show p7;show bH;show bO
 show fK
 exact d7;show bM;show eG;show aB;exact Qc _;show aB;exact Qc _;show aB;exact Qc _;show aB;show aT
noncomputable abbrev VZ:Stmt:=top 25
theorem sc_flat_size:FnScope ["program","sizes","name","lines"] cJ (Qn VZ):=dG
noncomputable abbrev Kk:SM:=(QgN aK aV (QD 2 Q0 (Qb cB (Qb aK Ql))))
noncomputable def KM:FM:=QN 3
  (QG (Q6 1 Qh4)
  (QG (JX (QpG (Qb aE Ql)) nA
  Kk)
  (ZU (Qi Qps aK (Qi wIx (Qi wIx aE bC) bC)))))
set_option maxHeartbeats 4000000 in
theorem GH(d:DefAt K mg "flat_size" VZ cJ)(b:Uf)(a:Fr):Cal P w K mg base 3 "flat_size" cJ KM:=by
 refine Q4 (k:=2) (more:=3) d sc_flat_size rfl λf h A c s H E g=>?_;show dO e g;show bR;exact sc_flat_size.nd;show bH;exact Qge;show bE
 show iJ;refine Qo1 ?_ ?_ ?_ ?_;show cC;show aB;show aT;exact rfl;show vE;refine Q8 sc_flat_size.nd rfl dA ?_ ?_;refine Q8 sc_flat_size.nd rfl dA ?_ ?_;exact VV
 show fK
 show fK
 show iK;show hX;refine QiV ?_ ?_ ?_ ?_ ?_;exact e;show yZ;show cK g;exact Qc _;show aB;show aT;exact rfl;show aN;exact rfl;exact d7;show bM;refine Qot ?_ ?_ ?_;exact e;exact Qc _;show jB;show bO;exact Qf
noncomputable def JK:FM:=box frN KM
theorem GZ(d:DefAt K mg "flat_size" VZ cJ)(b:Uf)(a:Fr):Cal P w K mg base 3 "flat_size" cJ JK:=(GH d b a).box frN
noncomputable abbrev XA:Stmt:=top 42
theorem Qb5:FnScope xA xA (Qn XA):=dG
noncomputable def Xc:FM:=QN 0
  (ZU (QcR (Qi wLe (Qi wIx aE bC) (mC Vn)) (QcR (Qi wLe (Qi wIx aE aM) (mC Vv)) (Qi wLe (Qi wIx aE bY) (mC J3)))))
set_option maxHeartbeats 4000000 in
theorem QaE(d:DefAt K mg "is_small" XA xA)(c:jv5)(a:jt3)(b:jv6):Cal P w K mg base 1 "is_small" xA Xc:=by
 refine Q4 (k:=0) (more:=0) d Qb5 rfl λf h A e s H E g=>?_;show dO i g;show bM;show pL;refine zN7;show bO;show p' b;show pL;refine zN7;show bO;show p' c;show xT;refine zN7;show bO;show p' a
noncomputable def Je:FM:=box frN Xc
theorem Qa8(d:DefAt K mg "is_small" XA xA)(c:jv5)(a:jt3)(b:jv6):zp6:=(QaE d c a b).box frN
noncomputable abbrev Xa:Stmt:=top 43
theorem sc_all_lines:FnScope ["program","lines","part"] cJ (Qn Xa):=dG
noncomputable abbrev Ko:SM:=(VQ (mMt "list" WS aK (Qb (Qi wIx aV aM) Ql)))
noncomputable def KN:FM:=QN 2
  (QG (Q6 1 j9)
  (QG (JX (QP aE) Aw
  Ko)
  (ZU aK)))
set_option maxHeartbeats 4000000 in
theorem G3(d:DefAt K mg "all_lines" Xa cJ):Cal P w K mg base 1 "all_lines" cJ KN:=by
 refine Q4 (k:=0) (more:=2) d sc_all_lines rfl λf c A a s H E b=>?_;show dO e b;show bR;exact sc_all_lines.nd;show bH;show kG;show bE
 show iJ;show l5;exact QM sc_all_lines.nd rfl dA;show hX;refine Q1 ?_;refine Jj NH Ft LL QbU ?_ ?_;exact Qc _;show aB;show bO;exact Qd;exact d7;show bM;exact Qc _
noncomputable def QH:FM:=box frN KN
theorem Gs(d:DefAt K mg "all_lines" Xa cJ):Cal P w K mg base 1 "all_lines" cJ QH:=(G3 d).box frN
noncomputable abbrev Xw:Stmt:=top 44
theorem Qb2:FnScope dE dE (Qn Xw):=dG
noncomputable def V1:FM:=QN 0
  (QG (Ju (QB (Qi wEq (Qi wIx aE bC) mU)) (ZU (mFn JB (Qb (Qi wIx aE aM) (Qb (Qi wIx aE dL) (Qb (Qi wIx aE iT) Ql))))) Q7)
  (QG (Ju (QB (Qi pD (Qi wIx aE bC) (mFn Xf (Qb B7 (Qb B5 (Qb HG (Qb vM (Qb Tb Ql)))))))) (ZU (mFn Qjf (Qb (mSl aE (ZW aM) Ji) Ql))) Q7)
  (ZU qX)))
set_option maxHeartbeats 4000000 in
theorem Qbn(d:DefAt K mg "boxes_in" Xw dE)(a:mg "list"=nO):Cal P w K mg base 1 "boxes_in" dE V1:=by
 refine Q4 (k:=0) (more:=0) d Qb2 rfl λf g A b s H E e=>?_;show dO c e;show cU;show dP c;show bO;exact Qj;show bM;show d8;show aB;show bO;show aB;show bO;show aB;show bO;exact Qd;exact QA;show cU;show vD c;show bO;show eG;show aB;exact Qj;show aB;exact Qj;show aB;exact Qj;show aB;exact Qj;show aB;show dV;show bM;refine ZH QdK Qo ?_ ?_ Om ?_ ?_ ?_ ?_ ?_;show cC;show aB;show jM;show wL;show fS;show aN;exact QA;show bM;show d8;exact Qd
noncomputable def Jk:FM:=box frN V1
theorem Qa2(d:DefAt K mg "boxes_in" Xw dE)(a:mg "list"=nO):Cal P w K mg base 1 "boxes_in" dE Jk:=(Qbn d a).box frN
noncomputable abbrev Xx:Stmt:=top 37
theorem sc_boxes_of:FnScope ["program","boxes","line"] cJ (Qn Xx):=dG
noncomputable abbrev KJ:SM:=(VQ (mMt "list" Gv aK (Qb (QD 1 Jk (Qb aV Ql)) Ql)))
noncomputable def K2:FM:=QN 2
  (QG (Q6 1 j9)
  (QG (JX (QP (QD 1 QH (Qb aE Ql))) Aw
  KJ)
  (ZU (mFn Kv (Qb aK Ql)))))
set_option maxHeartbeats 4000000 in
theorem Qax(d:DefAt K mg "boxes_of" Xx cJ)(h:r6)(c:Bz)(a:Cal P w K mg base 1 "all_lines" cJ QH)(b:Cal P w K mg base 1 "boxes_in" dE Jk):Cal P w K mg base 2 "boxes_of" cJ K2:=by
 refine Q4 (k:=1) (more:=2) d sc_boxes_of rfl λf i A e s H E g=>?_;show dO j g;show bR;exact sc_boxes_of.nd;show bH;show kG;show bE
 show iJ;refine ZT ?_;show cK g;show aT;exact rfl;show aN;exact QM sc_boxes_of.nd rfl dA;show hX;refine Q1 ?_;refine Jj NH Ft LL QdZ ?_ ?_;exact Qc _;show aB;show cK g;show aT;exact rfl;show aN;exact Qd;exact d7;show bM;show zs9;show cC;show cC;exact Qc _;exact rfl
noncomputable def VP:FM:=box frN K2
theorem QaU(d:DefAt K mg "boxes_of" Xx cJ)(e:r6)(c:Bz)(a:Cal P w K mg base 1 "all_lines" cJ QH)(b:Cal P w K mg base 1 "boxes_in" dE Jk):Cal P w K mg base 2 "boxes_of" cJ VP:=(Qax d e c a b).box frN
noncomputable abbrev XB:Stmt:=top 38
theorem Qb1:FnScope cJ cJ (Qn XB):=dG
noncomputable def K6:FM:=QN 0
  (ZU (mFn Kv (Qb (Zc Jd (QP (QD 1 QH (Qb aE Ql))) [nO] d9 (QB (Qi wEq (Qi wIx aE bC) mU)) (Qi wIx aE bY)) Ql)))
set_option maxHeartbeats 4000000 in
theorem Qbg(d:DefAt K mg "words_of" XB cJ)(e:r6)(b:Bz)(a:Cal P w K mg base 1 "all_lines" cJ QH):Cal P w K mg base 2 "words_of" cJ K6:=by
 refine Q4 (k:=1) (more:=0) d Qb1 rfl λf i A c s H E g=>?_;show dO h g;show bM;show zs9;show cC;show cC;refine YS Z1 ?_ (Z0 (Nb:=dE) (cp:=[nO]) rfl bB bB rfl rfl) ?_ cW cW cW;show M7;show cK g;show aT;exact rfl;show aN;show j3;show dP h;show bO;exact Qj;show bO;exact rfl
noncomputable def VL:FM:=box frN K6
theorem QaS(d:DefAt K mg "words_of" XB cJ)(c:r6)(b:Bz)(a:Cal P w K mg base 1 "all_lines" cJ QH):Cal P w K mg base 2 "words_of" cJ VL:=(Qbg d c b a).box frN
noncomputable abbrev XR:Stmt:=top 24
theorem Qbz:FnScope iY iY (Qn XR):=dG
noncomputable def KZ:FM:=QN 0
  (ZU (QD 2 Q0 (Qb aE (Qb Qh4 Ql))))
set_option maxHeartbeats 4000000 in
theorem QaN(d:DefAt K mg "own_size" XR iY)(a:Fr):Cal P w K mg base 3 "own_size" iY KZ:=by
 refine Q4 (k:=2) (more:=0) d Qbz rfl λf e A b s H E c=>?_;show dO g c;show bM;show cK c;exact Qc _;show aB;exact Qge;show fP;show aN
noncomputable def JF:FM:=box frN KZ
theorem Qar(d:DefAt K mg "own_size" XR iY)(a:Fr):Cal P w K mg base 3 "own_size" iY JF:=(QaN d a).box frN
noncomputable abbrev Jz:Stmt:=top 41
theorem sc_keeps_bounds:FnScope ["parts","backs","whole"] jE (Qn Jz):=dG
noncomputable def ZE:FM:=QN 2
  (QG (Ju (QB (Qi wGt (mFn JT (Qb (QD 1 VP (Qb aE Ql)) Ql)) (mC Vz))) hA Q7)
  (QG (Q6 1 (Zc Jd (QP (QD 1 QH (Qb aE Ql))) [nO] d9 (QB (Qi wEq (Qi wIx aE bC) yJ)) (Qi wIx aE aM)))
  (QG (Ju (QB (Qi wGt (mFn Qcx (Qb (QD 1 VL (Qb aE Ql)) (Qb aK Ql))) (mC Vt))) hA Q7)
  (QG (Q6 2 (QD 1 JK (Qb aE Ql)))
  (QG (Ju (QB (Qi wGt (Qi wIx aV dL) (mC Xe))) hA Q7)
  (ZU (QcR (QD 1 Je (Qb aV Ql)) (mFn Qap (Qb (Zc Jd (QP aE) rZ P4 KS (QD 1 Je (Qb (QD 1 JF (Qb aK Ql)) Ql))) Ql)))))))))
set_option maxHeartbeats 4000000 in
theorem WC(d:DefAt K mg "keeps_bounds" Jz jE)(b:jv7)(c:jz4)(a:jv8)(r:oJ)(p:dR)(o:r6)(g:Cal P w K mg base 1 "all_lines" cJ QH)(m:Cal P w K mg base 2 "boxes_of" cJ VP)(e:Cal P w K mg base 3 "flat_size" cJ JK)(l:zp6)(j:Cal P w K mg base 3 "own_size" iY JF)(i:Cal P w K mg base 2 "words_of" cJ VL):Cal P w K mg base 4 "keeps_bounds" jE ZE:=by
 refine Q4 (k:=3) (more:=2) d sc_keeps_bounds rfl λf v A n s H E h=>?_;show dO t h;show cU;show p6;show eJ;show aB;show cK h;show aT;exact rfl;show aN;show fS;show aN;show p' b;show bM;show i9;show jW;refine QaG sc_keeps_bounds.nd rfl dA ?_ Z1 ?_ (Z0 (Nb:=dE) (cp:=[nO]) rfl bB bB rfl rfl) ?_ cW cW cW ?_ ?_
 show fK
 show M7;show cK h;show aT;exact rfl;show aN;show j3;show dP t;show bO;exact Qj;show bO;exact d7;exact rfl;show cU;show p6;refine QhT ?_ ?_ ?_ ?_ ?_ ?_ ?_ ?_ ?_;exact rfl;show cC;show cC;show cK h;show aT;exact rfl;show aN;exact Qc _;show iK;show p' a;show bM;show i9;show bR;exact sc_keeps_bounds.nd;show bH;show cK h;show aT;exact rfl;show aN;show bE
 show cU;show p6;show bO;show p' c;show bM;show i9;show bM;show pL;show cK h;show aT;exact rfl;show aN;show xT;show AM;show cC;show aB;refine VB Z1 ?_ (Z0 (Nb:=["name","lines"]) (cp:=rZ) rfl bB bB rfl rfl) ?_ cW cW;exact rfl;show l5;show vE;refine Q8 Hc rfl dA ?_ ?_;refine Q8 Hc rfl dA ?_ ?_;exact VV
 show fK
 show fK
 show iK;show cK h;show cK h;show aT;exact rfl;show aN;show fP;show aN;show fS;show aN
noncomputable def ZO:FM:=box frN ZE
theorem Wq(d:DefAt K mg "keeps_bounds" Jz jE)(b:jv7)(c:jz4)(a:jv8)(n:oJ)(m:dR)(l:r6)(f:Cal P w K mg base 1 "all_lines" cJ QH)(j:Cal P w K mg base 2 "boxes_of" cJ VP)(e:Cal P w K mg base 3 "flat_size" cJ JK)(i:zp6)(h:Cal P w K mg base 3 "own_size" iY JF)(g:Cal P w K mg base 2 "words_of" cJ VL):Cal P w K mg base 4 "keeps_bounds" jE ZO:=(WC d b c a n m l f j e i h g).box frN
noncomputable abbrev VW:Stmt:=top 20
theorem sc_is_blocks:FnScope ["lines","opened","line"] iY (Qn VW):=dG
noncomputable abbrev J9:SM:=(Ju (UW (QB (Qi wEq (Qi wIx aV bC) sV)) (QB (Qi wEq (Qi wIx aV bC) HC))) (VQ (mMt "list" ZI aK (Qb (Qi wIx aV bC) Ql))) (Ju (QB (Qi wEq (Qi wIx aV bC) yQ)) (QG (Ju (UW (VN (KW aK)) (QB (Qi wNe (Qi wIx aK (mUn GM aM)) sV))) hA Q7)
  (Qc3 aK (mUn GM aM) yQ)) (Ju (QB (Qi wEq (Qi wIx aV bC) yK)) (QG (Ju (UW (VN (KW aK)) (QB (Qi wEq (Qi wIx aK (mUn GM aM)) sV))) hA Q7)
  (VQ (mMt "list" QoR aK Ql))) Q7)))
noncomputable def KF:FM:=QN 2
  (QG (Q6 1 j9)
  (QG (JX (QP aE) Aw
  J9)
  (ZU (Qi wEq (mFn JT (Qb aK Ql)) bC))))
set_option maxHeartbeats 4000000 in
theorem GU(d:DefAt K mg "is_blocks" VW iY)(c:dR):Cal P w K mg base 1 "is_blocks" iY KF:=by
 refine Q4 (k:=0) (more:=2) d sc_is_blocks rfl λf g A b s H E e=>?_;show dO a e;show bR;exact sc_is_blocks.nd;show bH;show kG;show bE
 show iJ;show l5;exact QM sc_is_blocks.nd rfl dA;show mO;show lO;show dP a;show bO;exact Qj;show mE;show dP a;show bO;exact Qj;show kX;show aB;show bO;exact Qd;show mO;show dP a;show bO;exact Qj;show cU;show lO;show j5;exact Qc _;show mE;show qD a;show gC;show oA;exact Qj;show bM;show i9;show RC;show oA;exact Qj;exact d7;show iK;show mO;show dP a;show bO;exact Qj;show cU;show lO;show j5;exact Qc _;show mE;show dP a;show gC;show oA;exact Qj;show bM;show i9;show hX;show jh2;exact QA;exact d7;show bM;show AV a;show eJ;show aB;show aT;decide;show aN;exact Qf
noncomputable def Vg:FM:=box frN KF
theorem GD(d:DefAt K mg "is_blocks" VW iY)(a:dR):Cal P w K mg base 1 "is_blocks" iY Vg:=(GU d a).box frN
noncomputable abbrev Kt:Stmt:=top 17
theorem Qeb:FnScope cY cY (Qn Kt):=dG
noncomputable def VO:FM:=QN 0
  (QG (Ju (UW (VN (KW (mFn QcG (Qb aE S9)))) (QB (Qi wEq (mFn JT (Qb aE Ql)) bC))) hA Q7)
  (QG (Ju (UW (VN (KW (mFn QcG (Qb (Qi wIx aE bC) jt2)))) (QB (mUn (Qhb true Qy) (Qi wIx aE bC)))) hA Q7)
  (QG (Ju (QB (Qi wNe (mFn JT (Qb aE Ql)) (Qi Zd aM (mUn (QkP Qy) (Qi wIx aE bC))))) hA Q7)
  (ZU (mFn Qap (Qb (Zc Jd (QP (mSl aE (ZW aM) Ji)) [nO] d9 KS (QD 1 Zi (Qb aE Ql))) Ql))))))
set_option maxHeartbeats 4000000 in
theorem Qch(d:DefAt K mg "is_line" Kt cY)(a:jo0)(j:oJ)(c:qF)(i:dR)(g:zg9)(b:jP)(e:Cal P w K mg base 2 "is_name" cY Zi):Cal P w K mg base 3 "is_line" cY VO:=by
 refine Q4 (k:=2) (more:=0) d Qeb rfl λf n A h s H E m=>?_;show dO l m;show cU;show lO;show j5;show v3;show cC;show aB;exact Qc _;show aB;exact QaA rfl b N5;show fS;show aN;show mE;show dP l;show eJ;show aB;show aT;decide;show aN;exact Qf;show bM;show i9;show cU;show lO;show j5;show v3;show cC;show aB;show bO;show aB;exact QaA rfl g OA;show fS;show aN;show mE;refine Qeg ?_ ?_ ?_;exact a;exact rfl;show bO;show bM;show i9;show cU;show qD l;show eJ;show aB;show aT;decide;show aN;show bX;exact Qf;refine Qnv ?_ ?_ ?_;exact a;exact rfl;show bO;show bM;show i9;show bM;show AM;show cC;show aB;refine VB Z1 ?_ (Z0 (Nb:=["name"]) (cp:=[nO]) rfl bB bB rfl rfl) ?_ cW cW;show M7;show jM;show wL;show j3;show cK m;show aT;exact rfl;show aN;show fS;show aN
noncomputable def ZL:FM:=box frN VO
theorem QbM(d:DefAt K mg "is_line" Kt cY)(a:jo0)(h:oJ)(b:qF)(g:dR)(f:zg9)(e:jP)(c:Cal P w K mg base 2 "is_name" cY Zi):Cal P w K mg base 3 "is_line" cY ZL:=(Qch d a h b g f e c).box frN
noncomputable abbrev Ks:Stmt:=top 39
theorem Qdr:FnScope cY cY (Qn Ks):=dG
noncomputable def Yt:FM:=QN 0
  (QG (Ju (UW (VN (KW (mFn QcG (Qb aE S9)))) (QB (Qi wNe (mFn JT (Qb aE Ql)) bY))) hA Q7)
  (QG (Ju (UW (VN (KW (QD 1 Zi (Qb (Qi wIx aE bC) Ql)))) (VN (KW (mFn QcG (Qb (Qi wIx aE aM) S9))))) hA Q7)
  (ZU (QcR (mFn Qap (Qb (Zc Jd (QP (Qi wIx aE aM)) [nO] d9 KS (QD 1 ZL (Qb aE Ql))) Ql)) (QD 1 Vg (Qb (Qi wIx aE aM) Ql))))))
set_option maxHeartbeats 4000000 in
theorem Qb6(d:DefAt K mg "is_part" Ks cY)(l:oJ)(b:qF)(j:dR)(a:jP)(c:Cal P w K mg base 1 "is_blocks" iY Vg)(g:Cal P w K mg base 3 "is_line" cY ZL)(e:Cal P w K mg base 2 "is_name" cY Zi):Cal P w K mg base 4 "is_part" cY Yt:=by
 refine Q4 (k:=3) (more:=0) d Qdr rfl λf n A i s H E h=>?_;show dO m h;show cU;show lO;show j5;show v3;show cC;show aB;exact Qc _;show aB;exact QaA rfl a N5;show fS;show aN;show mE;show qD m;show eJ;show aB;show aT;decide;show aN;exact Qf;show bM;show i9;show cU;show lO;show j5;show cK h;show bO;show fP;show aN;show mE;show j5;show v3;show cC;show aB;show bO;show aB;exact QaA rfl a N5;show fS;show aN;show bM;show i9;show bM;show pL;show AM;show cC;show aB;refine VB Z1 ?_ (Z0 (Nb:=dE) (cp:=[nO]) rfl bB bB rfl rfl) ?_ cW cW;show M7;show bO;show j3;show cK h;show aT;exact rfl;show aN;show fS;show aN;show xT;show cK h;show bO;show fP;show aN
noncomputable def JR:FM:=box frN Yt
theorem QbL(d:DefAt K mg "is_part" Ks cY)(h:oJ)(a:qF)(g:dR)(f:jP)(b:Cal P w K mg base 1 "is_blocks" iY Vg)(e:Cal P w K mg base 3 "is_line" cY ZL)(c:Cal P w K mg base 2 "is_name" cY Zi):Cal P w K mg base 4 "is_part" cY JR:=(Qb6 d h a g f b e c).box frN
noncomputable abbrev Vu:Stmt:=top 36
theorem Gj:FnScope cY cY (Qn Vu):=dG
noncomputable def Va:FM:=QN 0
  (QG (Ju (UW (VN (KW (mFn QcG (Qb aE S9)))) (VN (QB (XJ wLe wLe aM (mFn JT (Qb aE Ql)) (mC Jg))))) hA Q7)
  (QG (Ju (VN (KW (mFn Qap (Qb (Zc Jd (QP aE) [nO] d9 KS (QD 1 JR (Qb aE Ql))) Ql)))) hA Q7)
  (ZU (QcR (QD 1 Zh (Qb aE Ql)) (QD 1 ZO (Qb aE Ql))))))
set_option maxHeartbeats 4000000 in
theorem UJ(d:DefAt K mg "is_program" Vu cY)(a:jv9)(m:oJ)(g:qF)(l:dR)(e:jP)(b:Cal P w K mg base 1 "has_right_names" jE Zh)(h:Cal P w K mg base 4 "is_part" cY JR)(c:Cal P w K mg base 4 "keeps_bounds" jE ZO):Cal P w K mg base 5 "is_program" cY Va:=by
 refine Q4 (k:=4) (more:=0) d Gj rfl λf n A j s H E i=>?_;show dO o i;show cU;show lO;show j5;show v3;show cC;show aB;exact Qc _;show aB;exact QaA rfl e N5;show fS;show aN;show mE;show jf4;show eJ;show aB;show aT;decide;show aN;show p' a;show bM;show i9;show cU;show j5;show AM;show cC;show aB;refine VB Z1 ?_ (Z0 (Nb:=["part"]) (cp:=[nO]) rfl bB bB rfl rfl) ?_ cW cW;exact rfl;show l5;show j3;show cK i;show aT;exact rfl;show aN;show fS;show aN;show bM;show i9;show bM;show pL;show cK i;show aT;exact rfl;show aN;show xT;show cK i;show aT;exact rfl;show aN
noncomputable def Q2:FM:=box frN Va
theorem UL(d:DefAt K mg "is_program" Vu cY)(c:jv9)(i:oJ)(e:qF)(h:dR)(g:jP)(a:Cal P w K mg base 1 "has_right_names" jE Zh)(f:Cal P w K mg base 4 "is_part" cY JR)(b:Cal P w K mg base 4 "keeps_bounds" jE ZO):Cal P w K mg base 5 "is_program" cY Q2:=(UJ d c i e h g a f b).box frN
noncomputable abbrev J1:Stmt:=top 49
theorem UP:FnScope qO qO (Qn J1):=dG
noncomputable def Zv:FM:=QN 0
  (QG (Ju (QB (Qi wEq aK (mFn Xf (Qb vM Ql)))) (ZU (mFn Xf (Qb vM (Qb aE Ql)))) Q7)
  (QG (Ju (QB (Qi pD (Qi wIx aK bC) (mFn Xf (Qb mU (Qb B7 (Qb B5 Ql)))))) (ZU (Qi Zd (mFn Xf (Qb (Qi wIx aK bC) (Qb aE Ql))) (mSl aK (ZW aM) Ji))) Q7)
  (ZU (Qi Zd (mFn Xf (Qb HG (Qb aE Ql))) aK))))
set_option maxHeartbeats 4000000 in
theorem WY(d:DefAt K mg "giving_line" J1 qO):Cal P w K mg base 1 "giving_line" qO Zv:=by
 refine Q4 (k:=0) (more:=0) d UP rfl λf e A a s H E c=>?_;show dO b c;show cU;show dP b;exact Qc _;show eG;show aB;show dV;show bM;show eG;show aB;exact Qj;show aB;show aT;exact QA;show cU;show vD b;show bO;show eG;show aB;exact Qj;show aB;exact Qj;show aB;show dV;show bM;show bX;show eG;show aB;show bO;show aB;show aT;show jM;show wL;exact QA;show bM;show bX;show eG;show aB;exact Qj;show aB;show aT;exact Qc _
noncomputable def Zr:FM:=box frN Zv
theorem Ui(d:DefAt K mg "giving_line" J1 qO):Cal P w K mg base 1 "giving_line" qO Zr:=(WY d).box frN
noncomputable abbrev YI:Stmt:=top 18
theorem Qip:FnScope dE dE (Qn YI):=dG
noncomputable def K3:FM:=QN 0
  (ZU (mIf (QB (Qi pD (Qi wIx aE bC) (mC Ky))) (Qi wIx aE aM) nG))
set_option maxHeartbeats 4000000 in
theorem Qgm(d:DefAt K mg "gives" YI dE)(a:Glob K mg "GIVING" Ky):Cal P w K mg base 1 "gives" dE K3:=by
 refine Q4 (k:=0) (more:=0) d Qip rfl λf g A b s H E e=>?_;show dO c e;show bM;refine MB;show vD c;show bO;show p' a;show bO;exact YW
noncomputable def XZ:FM:=box frN K3
theorem Qfp(d:DefAt K mg "gives" YI dE)(a:Glob K mg "GIVING" Ky):Cal P w K mg base 1 "gives" dE XZ:=(Qgm d a).box frN
noncomputable abbrev Jo:Stmt:=top 48
theorem sc_line_of_words:FnScope ["words","line"] gV (Qn Jo):=dG
noncomputable def QJ:FM:=QN 1
  (QG (Ju (KG (QB (Qi wGt (mFn JT (Qb aE Ql)) bY)) (QB (Qi wEq (Qi wIx aE aM) qN))) (QG (Q6 1 (QD 2 Zr (Qb (Qi wIx aE bC) (Qb (mFn J8 (Qb (mSl aE (ZW bY) Ji) Ql)) Ql))))
  (ZU (mIf (KW (QD 1 ZL (Qb aK Ql))) aK nG))) Q7)
  (QG (Q6 1 (mFn J8 (Qb aE Ql)))
  (ZU (mIf (KG (KW (QD 1 ZL (Qb aK Ql))) (QB (Qi wIs (QD 1 XZ (Qb aK Ql)) nG))) aK nG))))
set_option maxHeartbeats 4000000 in
theorem Wg(d:DefAt K mg "line_of_words" Jo gV)(i:dR)(g:jP)(e:Cal P w K mg base 1 "gives" dE XZ)(a:Cal P w K mg base 1 "giving_line" qO Zr)(b:Cal P w K mg base 3 "is_line" cY ZL):Cal P w K mg base 4 "line_of_words" gV QJ:=by
 refine Q4 (k:=3) (more:=1) d sc_line_of_words rfl λf l A h s H E c=>?_;show dO j c;show cU;show qC;show p6;show eJ;show aB;show aT;decide;show aN;exact Qf;show sG;show dP j;show bO;exact Qj;show bR;exact sc_line_of_words.nd;show bH;show cK c;show bO;show aB;show oV;show cC;show aB;show jM;show wL;show fS;show aN;show fP;show aN;show bE
 show bM;refine MB;refine ZJ ?_;show cK c;show aT;exact rfl;show aN;exact Qc _;exact YW;exact QA;show bR;exact sc_line_of_words.nd;show bH;show oV;show cC;show aB;show aT;decide;show aN;show bE
 show bM;refine MB;show qC;refine ZJ ?_;show cK c;show aT;exact rfl;show aN;show sG;refine Y';show cK c;show aT;exact rfl;show aN;exact YW;exact Qc _;exact YW
noncomputable def QL:FM:=box frN QJ
theorem Y8(d:DefAt K mg "line_of_words" Jo gV)(f:dR)(e:jP)(c:Cal P w K mg base 1 "gives" dE XZ)(a:Cal P w K mg base 1 "giving_line" qO Zr)(b:Cal P w K mg base 3 "is_line" cY ZL):Cal P w K mg base 4 "line_of_words" gV QL:=(Wg d f e c a b).box frN
noncomputable abbrev Z7:Stmt:=top 46
theorem sc_read_program:FnScope ["text","names","bodies","at","row","words","line","program"] rO (Qn Z7):=dG
noncomputable abbrev ZN:SM:=(QG (Q6 5 (mMt "str" Jm dF (Qb jN Ql)))
  (Ju (KW (QD 1 QS gO)) (QG (VQ (mMt "list" ZI aK (Qb (Qi wIx hY aM) Ql)))
  (VQ (mMt "list" ZI aV (Qb j9 Ql)))) (QG (Q6 6 (QD 1 QL gO))
  (QG (Ju (UW (QB (Qi wIs dY nG)) (VN (KW aV))) QhH Q7)
  (VQ (mMt "list" ZI (Qi wIx aV (mUn GM aM)) (Qb dY Ql)))))))
noncomputable def Xh:FM:=QN 7
  (QG (Q6 1 j9)
  (QG (Q6 2 j9)
  (QG (JX (Kl (Qb (mMt "str" Jm aE sS) Ql)) u4
  ZN)
  (QG (Q6 7 (mFn J8 (Qb (Zc Jd (Qak (Qb aK (Qb aV Ql))) rZ P4 KS (mFn Xf (Qb aE (Qb (mFn J8 (Qb aK Ql)) Ql)))) Ql)))
  (QG (Ju (VN (KW (QD 1 Q2 (Qb dS Ql)))) QhH Q7)
  (ZU dS))))))
set_option maxHeartbeats 4000000 in
theorem WD(d:zq4)(e:HW)(g:jP)(j:N')(b:Cal P w K mg base 3 "is_part_row" gV QS)(c:Cal P w K mg base 5 "is_program" cY Q2)(a:Cal P w K mg base 4 "line_of_words" gV QL):Cal P w K mg base 6 "read_program" rO Xh:=by
 refine Q4 (k:=5) (more:=7) d sc_read_program rfl λf l A i s H E h=>?_;show dO m h;show bR;show qG;show bH;show kG;show bE
 show bR;show qG;show bH;show kG;show bE
 show iJ;refine Qay ?_ ?_ ?_ ?_;show cC;show aB;show B6;exact Qc _;show aB;show dV;show fP;show vE;refine Q8 sc_read_program.nd rfl dA ?_ ?_;refine Q8 sc_read_program.nd rfl dA ?_ ?_;exact VV
 show fK
 show fK
 show iK;show bR;show qG;show bH;show B6;exact Qc _;show aB;show dV;show bE
 show mO;refine ZJ ?_;show cK h;show aT;exact rfl;show aN;show jW;show xZ;exact Qc _;show aB;show bO;exact Qd;show kX;show aB;show kG;exact Qd;show bR;show qG;show bH;show cK h;show aT;exact rfl;show aN;show bE
 show cU;show lO;refine Y';exact Qc _;exact YW;show mE;show j5;exact Qc _;show hX;exact QcV;exact QA;show hX;show xZ;show gC;show oA;show aB;show aT;exact d7;show bR;show qG;show bH;show oV;show cC;show aB;refine VB Z1 ?_ (Z0 (Nb:=ZB) (cp:=rZ) rfl bB bB rfl rfl) ?_ cW cW;exact rfl;refine zD3;show cC;show aB;exact Qc _;show aB;show aT;show iK;show vE;refine Q8 Hc rfl dA ?_ ?_;refine Q8 Hc rfl dA ?_ ?_;exact VV
 show fK
 show fK
 show iK;show eG;show aB;exact Qc _;show aB;show oV;show cC;show aB;show aT;decide;show aN;exact Qd;show fS;show aN;show bE
 show cU;show j5;show cK h;show aT;exact rfl;show aN;show hX;exact QcV;exact QA;show bM;exact Qc _
noncomputable def JC:FM:=box frN Xh
theorem Wy(d:zq4)(e:HW)(f:jP)(g:N')(b:Cal P w K mg base 3 "is_part_row" gV QS)(c:Cal P w K mg base 5 "is_program" cY Q2)(a:Cal P w K mg base 4 "line_of_words" gV QL):Cal P w K mg base 6 "read_program" rO JC:=(WD d e f g b c a).box frN
noncomputable abbrev JY:Stmt:=top 66
theorem sc__law_spoilt:FnScope ["row","number","words","at","spot","sign","odd","some"] vS (Qn JY):=dG
noncomputable def Vm:FM:=QN 6
  (QG (Q6 2 (mMt "str" Jm aE (Qb jN Ql)))
  (QG (Q6 3 (Qi JL (Qi V8 aK (mC (.int 32))) (mFn JT (Qb aV Ql))))
  (QG (Q6 4 (Qi JL (Qi V8 aK (mC (.int 512))) (Qi Zd (mFn JT (Qb aE Ql)) aM)))
  (QG (Q6 5 (Qi wIx (mC (.str "a =9Az")) (Qi JL (Qi V8 aK (mC (.int 65536))) pB)))
  (QG (Q6 6 (Qi wIx (mFn JB (Qb mU (Qb vM (Qb HI (Qb yK (Qb (mC (.str "abcdefghi")) (Qb (mC (.str "a1")) (Qb Bw (Qb (mC (.str "Ab")) (Qb qN (Qb (mC (.str "x")) Ql))))))))))) (Qi JL (Qi V8 aK (mC (.int 65536))) zK6)))
  (QG (Q6 7 (mFn WE (Qb (Qi Zd aE jN) (Qb (Qi Zd jN aE) (Qb (mUn (Qe2 " " "  ") aE) (Qb (mMt "str" QaY aE Ql) (Qb (Qi Zd aE (mC (.str " a"))) (Qb (mMt "str" Xp jN (Qb (mSl aV Ji (ZW (mUn GM aM))) Ql)) (Qb Bw Ql)))))))))
  (QG (Q6 7 (Qi Zd dS (mFn JB (Qb (mMt "str" Xp jN (Qb (Qi Zd (Qi Zd (mSl aV Ji (ZW cB)) (mFn JB (Qb dY Ql))) (mSl aV (ZW (Qi Zd cB aM)) Ji)) Ql)) (Qb (mMt "str" Xp jN (Qb (Qi Zd (Qi Zd (mSl aV Ji (ZW cB)) (mFn JB (Qb dY Ql))) (mSl aV (ZW cB) Ji)) Ql)) Ql)))))
  (QG (Q6 7 (Qi Zd dS (mFn JB (Qb (Qi Zd (mSl aE Ji (ZW dF)) (mSl aE (ZW (Qi Zd dF aM)) Ji)) (Qb (Qi Zd (Qi Zd (mSl aE Ji (ZW dF)) hY) (mSl aE (ZW dF) Ji)) (Qb (Qi Zd (mSl aE Ji (ZW dF)) (mSl aE (ZW (mFn Qhw (Qb bC (Qb (Qi Qig dF aM) Ql)))) Ji)) Ql))))))
  (QG (Q6 7 (Qi Zd dS (mFn JB (Qb (Qi Zd (mC (.str "x = ")) aE) (Qb (mUn (Qe2 "= " "=") aE) (Qb (mC (.str "same x x")) (Qb (mC (.str "x = tell x")) (Qb (mC (.str "x = same x")) (Qb (mC (.str "x = back x")) Ql)))))))))
  (QG (Q6 7 (Qi Qei dS (mFn JB (Qb yJ (Qb (mC (.str "back a b")) (Qb (mC (.str "back A")) (Qb (mC (.str "back ")) (Qb (Qi Zd aE (mC (.str " a"))) Ql))))))))
  (QG (Ju (KG (QB (Qi wEq (mSl aV (ZW aM) (ZW bY)) (mFn JB (Qb qN Ql)))) (QB (Qi wGt (mFn JT (Qb aV Ql)) bY))) (Qc3 dS (mUn GM aM) (mMt "str" Xp jN (Qb (Qi Zd (mFn JB (Qb (Qi wIx aV bY) (Qb (Qi wIx aV bC) Ql))) (mSl aV (ZW dL) Ji)) Ql))) Q7)
  (ZU (Qi wIx dS (Qi JL aK (mFn JT (Qb dS Ql))))))))))))))))
set_option maxHeartbeats 4000000 in
theorem Ue(d:DefAt K mg "_law_spoilt" JY vS)(c:dR)(b:NE):Cal P w K mg base 1 "_law_spoilt" vS Vm:=by
 refine Q4 (k:=0) (more:=6) d sc__law_spoilt rfl λf h A a s H E g=>?_;show dO e g;show bR;show qH;show bH;show B6;exact Qc _;show aB;show dV;show bE
 show bR;show qH;show bH;show jK;show eJ;show aB;show aT;decide;show aN;show bE
 show bR;show qH;show bH;show jK;show bX;show eJ;show aB;show aT;decide;show aN;exact Qf;show bE
 show bR;show qH;show bH;show jB;exact Qj;show jK;exact Qf;show bE
 show bR;show qH;show bH;show jB;show d8;show aB;exact Qj;show aB;exact Qj;show aB;exact Qj;show aB;exact Qj;show aB;exact Qj;show aB;exact Qj;show aB;exact Qj;show aB;exact Qj;show aB;exact Qj;show aB;show dV;show jK;exact Qf;show bE
 show bR;show qH;show bH;refine VG ?_;refine QaZ ?_ ?_;refine Ql3 Qu Qh ?_;exact Qc _;refine QeB ?_ ?_;show bX;exact Qj;show jg0;show aN;show aB;refine Qgn N4 PySem.F.slot_str_upper PySem.F.type_str_upper Qgd ?_;exact Qc _;show aB;show bX;show lY;show aB;show vA;show aB;refine Za ?_ ?_ ?_;show MN;refine Q3 ?_;show oA;exact Qd;show aB;show dV;show bE
 show bR;show qH;show bH;show bX;exact Qc _;show d8;show aB;show vA;show aB;show bX;show bX;show AJ;show d8;show aB;show aT;show jM;show bX;show dH;exact Zf;exact Qd;show aB;show vA;show aB;show bX;show bX;show AJ;show d8;show aB;show aT;show jM;show MN;show zU;show bE
 show bR;show qH;show bH;show bX;exact Qc _;show d8;show aB;show bX;show AJ;show jM;show bX;show dH;exact Zf;show aB;show bX;show bX;show AJ;exact Qc _;show jM;show MN;show aB;show bX;show AJ;show jM;show zp2;show cC;show aB;exact Qf;show aB;refine zK7;show dH;show fS;show aN;exact Zf;exact Qd;show bE
 show bR;show qH;show bH;show bX;exact Qc _;show d8;refine QaZ ?_ ?_;refine Qmy Qu Qh ?_;show jg0;show aN;show aB;exact Qj;show aB;exact Qj;show aB;exact Qj;show aB;show dV;show bE
 show bR;show qH;show bH;refine Qs Qdh Qh ?_ ?_;exact Qc _;show d8;show aB;exact Qj;show aB;exact Qj;show aB;exact Qj;show aB;exact Qj;show aB;show bX;exact Qc _;show dV;show bE
 show cU;show qC;show dP e;show jM;exact Qf;refine Q3 ?_;exact Qf;show d8;show aB;show dV;show sG;show p6;show eJ;show aB;show aT;decide;show aN;exact Qf;show RC;show oA;show vA;show aB;show bX;show d8;show aB;show bO;show aB;show bO;exact Qd;show jM;show wL;exact Qd;exact d7;show iK;exact QA;show bM;show gC;show i8;exact Qc _;show eJ;show aB;show aT;decide;show aN
noncomputable def Jp:FM:=box frN Vm
theorem Ul(d:DefAt K mg "_law_spoilt" JY vS)(b:dR)(a:NE):Cal P w K mg base 1 "_law_spoilt" vS Jp:=(Ue d b a).box frN
noncomputable abbrev JA:Stmt:=top 62
theorem sc__law_is_name:FnScope ["word","kept"] Ah (Qn JA):=dG
noncomputable def Xi:FM:=QN 1
  (QG (Q6 1 (mFn Xf Rm))
  (QG (Ju (UW (QB (Qi wLt (mFn JT (Qb aE Ql)) aM)) (UW (QB (Qi wGt (mFn JT (Qb aE Ql)) iM)) (QB (Qi pD aE aK)))) hA Q7)
  (ZU (Qi wEq (Zc Jd (QP aE) [nO] d9 (QB (Qi QmP aE Ha)) aE) qX))))
set_option maxHeartbeats 4000000 in
theorem Wx(d:DefAt K mg "_law_is_name" JA Ah)(b:dR):Cal P w K mg base 1 "_law_is_name" Ah Xi:=by
 refine Q4 (k:=0) (more:=1) d sc__law_is_name rfl λf g A a s H E e=>?_;show dO c e;show bR;exact sc__law_is_name.nd;show bH;show eG;show aB;exact Qj;show aB;exact Qj;show aB;exact Qj;show aB;exact Qj;show aB;exact Qj;show aB;exact Qj;show aB;exact Qj;show aB;exact Qj;show aB;exact Qj;show aB;exact Qj;show aB;exact Qj;show aB;show dV;show bE
 show cU;show lO;refine Mh;show eJ;show aB;show aT;decide;show aN;exact Qf;refine XF ?_ ?_;show p6;show eJ;show aB;show aT;decide;show aN;exact Qf;show mE;show vD c;show yZ;show bM;show i9;show bM;show AV c;refine YS Z1 ?_ (Z0 (Nb:=rN) (cp:=[nO]) rfl bB bB rfl rfl) ?_ cW cW cW;exact rfl;show l5;show j3;refine Qr Qdt Qh ?_ ?_;show lY;exact Qc _;show d8;exact Qd
noncomputable def Ja:FM:=box frN Xi
theorem Ws(d:DefAt K mg "_law_is_name" JA Ah)(a:dR):zo8:=(Wx d a).box frN
noncomputable abbrev Xd:Stmt:=top 63
theorem sc__law_fits:FnScope ["words","form","word","due"] tE (Qn Xd):=dG
noncomputable abbrev Js:SM:=(Ju (UW (KG (QB (Qi wNe cB j7)) (QB (Qi wNe aV cB))) (KG (QB (Qi wEq cB j7)) (VN (KW (QD 1 Ja (Qb aV Ql)))))) hA Q7)
noncomputable def Xq:FM:=QN 2
  (QG (Ju (QB (Qi wNe (mFn JT (Qb aE Ql)) (mFn JT (Qb aK Ql)))) hA Q7)
  (QG (JX (Qak (Qb aE (Qb aK Ql))) nA
  Js)
  zy6))
set_option maxHeartbeats 4000000 in
theorem GK(d:DefAt K mg "_law_fits" Xd tE)(g:dR)(e:N')(a:zo8):Cal P w K mg base 2 "_law_fits" tE Xq:=by
 refine Q4 (k:=1) (more:=2) d sc__law_fits rfl λf i A c s H E h=>?_;show dO b h;show cU;show qD b;show eJ;show aB;show aT;decide;show aN;show eJ;show aB;show aT;decide;show aN;show bM;show i9;show iJ;refine zD3;show cC;show aB;exact Qc _;show aB;show aT;show iK;show vE;refine Q8 sc__law_fits.nd rfl dA ?_ ?_;refine Q8 sc__law_fits.nd rfl dA ?_ ?_;exact VV
 show fK
 show fK
 show iK;show mO;show lO;show qC;show qD b;show lY;show sG;show qD b;show yZ;show mE;show qC;show dP b;show lY;show sG;show j5;show cK h;show aT;exact rfl;show aN;show bM;show i9;exact d7;show bM;exact Xy
noncomputable def Zu:FM:=box frN Xq
theorem Qac(d:DefAt K mg "_law_fits" Xd tE)(c:dR)(b:N')(a:zo8):Cal P w K mg base 2 "_law_fits" tE Zu:=(GK d c b a).box frN
noncomputable abbrev Jq:Stmt:=top 64
theorem sc__law_is_row:FnScope jk7 tL (Qn Jq):=dG
noncomputable def XH:FM:=QN 2
  (QG (Q6 2 (mMt "str" Jm aE (Qb jN Ql)))
  (QG (Ju (KW (QD 2 Zu (Qb aV (Qb (mFn JB (Qb HI (Qb j7 Ql))) Ql)))) zy6 Q7)
  (QG (Q6 3 (mFn JB (Qb (mFn JB (Qb j7 (Qb qN (Qb mU (Qb j7 (Qb j7 (Qb j7 Ql))))))) (Qb (mFn JB (Qb j7 (Qb qN (Qb B7 (Qb j7 Ql))))) Ql))))
  (QG (Q6 3 (Qi Zd cB (mFn JB (Qb (mFn JB (Qb j7 (Qb qN (Qb B5 (Qb j7 Ql))))) (Qb (mFn JB (Qb j7 (Qb qN (Qb j7 Ql)))) (Qb (mFn JB (Qb j7 (Qb qN (Qb vM Ql)))) (Qb (mFn JB (Qb Tb (Qb j7 Ql))) Ql)))))))
  (QG (Q6 3 (Qi Zd cB (mFn JB (Qb (mFn JB (Qb yJ (Qb j7 Ql))) (Qb (mFn JB (Qb sV Ql)) (Qb (mFn JB (Qb yQ Ql)) (Qb (mFn JB (Qb HC Ql)) (Qb (mFn JB (Qb yK Ql)) (Qb (mFn JB (Qb qJ (Qb j7 Ql))) Ql)))))))))
  (ZU (QcR (Qi wGt aK bC) (Qi wNe (Zc Jd (QP cB) PD d9 (KW (QD 2 Zu (Qb aK (Qb aE Ql)))) aE) qX))))))))
set_option maxHeartbeats 4000000 in
theorem Ug(d:DefAt K mg "_law_is_row" Jq tL)(a:Cal P w K mg base 2 "_law_fits" tE Zu):Cal P w K mg base 3 "_law_is_row" tL XH:=by
 refine Q4 (k:=2) (more:=2) d sc__law_is_row rfl λf h A b s H E c=>?_;show dO g c;show bR;show za2;show yH;show B6;exact Qc _;show aB;show dV;show bE
 show cU;refine ZJ ?_;show cK c;exact Qc _;show aB;show d8;show aB;exact Qj;show aB;show dV;show fP;show aN;show bM;show i9;show bR;show za2;show bH;show d8;show aB;show d8;show aB;exact Qj;show aB;exact Qj;show aB;exact Qj;show aB;exact Qj;show aB;exact Qj;show aB;show dV;show aB;show d8;show aB;exact Qj;show aB;exact Qj;show aB;exact Qj;show aB;show dV;exact Qd;show bE
 show bR;show za2;show bH;show bX;exact Qc _;show d8;show aB;show d8;show aB;exact Qj;show aB;exact Qj;show aB;exact Qj;show aB;show dV;show aB;show d8;show aB;exact Qj;show aB;exact Qj;show aB;show dV;show aB;show d8;show aB;exact Qj;show aB;exact Qj;show aB;show dV;show aB;show d8;show aB;exact Qj;show aB;show dV;exact Qd;show bE
 show bR;show za2;show bH;show bX;exact Qc _;show d8;show aB;show d8;show aB;exact Qj;show aB;show dV;show aB;show d8;show aB;show dV;show aB;show d8;show aB;show dV;show aB;show d8;show aB;show dV;show aB;show d8;show aB;show dV;show aB;show d8;show aB;exact Qj;show aB;show dV;exact Qd;show bE
 show bM;show pL;refine Xo Kx Qh ?_ ?_;show dH;show xT;refine Xo (K1 ?_) Qh ?_ ?_;exact g;refine YS Z1 ?_ (Ur (ks:=gV) (Nb:=["form","words"]) (cp:=PD) (N:=jk7) (xs:=(Qn Jq)) rfl rfl bB rfl bB (by show vB p e;rcases e with rfl<;>rfl) rfl rfl rfl bB) ?_ cW cW cW;exact rfl;show l5;show j3;refine ZJ ?_;show cK c;exact Qc _;show aB;show aT;exact rfl;show aN;exact Qc _;show d8;exact Qd
noncomputable def Z4:FM:=box frN XH
theorem Uc(d:DefAt K mg "_law_is_row" Jq tL)(a:Cal P w K mg base 2 "_law_fits" tE Zu):Cal P w K mg base 3 "_law_is_row" tL Z4:=(Ug d a).box frN
noncomputable abbrev Jb:Stmt:=top 65
theorem sc__law_first_bad:FnScope ["rows","at"] CH (Qn Jb):=dG
noncomputable abbrev Zn:SM:=(Ju (VN (KW (QD 2 Z4 (Qb (Qi wIx aE aK) (Qb aK Ql))))) (ZU aK) Q7)
noncomputable def Vs:FM:=QN 1
  (QG (JX (KA (Qb (mFn JT (Qb aE Ql)) Ql)) (ZK 1)
  Zn)
  (ZU nG))
set_option maxHeartbeats 4000000 in
theorem YT(d:je7)(e:dR)(b:tP)(a:Cal P w K mg base 3 "_law_is_row" tL Z4):Cal P w K mg base 4 "_law_first_bad" CH Vs:=by
 refine Q4 (k:=3) (more:=1) d sc__law_first_bad rfl λf h A c s H E g=>?_;show dO i g;show iJ;show o9;show cC;show aB;show eJ;show aB;show aT;decide;show aN;show fP;exact QM sc__law_first_bad.nd rfl dA;show mO;show j5;show cK g;show gC;exact Qc _;show aB;show aT;exact rfl;show aN;show bM;exact Qc _;exact QA;exact d7;show bM;exact YW
noncomputable def QX:FM:=box frN Vs
theorem YR(d:je7)(c:dR)(b:tP)(a:Cal P w K mg base 3 "_law_is_row" tL Z4):ja0:=(YT d c b a).box frN
#print "-"
open PySem.W
noncomputable def Qq4(s:Stmt)(i:Nat):Stmt:=match s with
 |.ClassDef _ _ _ b _ _ _ _ _ _ _=>b.getD i (.Pass zR6)
 |_=>.Pass zR6
noncomputable abbrev KH:Stmt:=Qq4 (top 8) 0
theorem Qkp:FnScope zG zG (Qn KH):=dG
section
variable{P:Program}{w:World}{K:Nd}{mg:c'}{base:Heap}{R:Addr}
theorem Ql5{n:Int}(h:HQ):(Str.ofString (toString n)).length<=4000:=by
 have e:=int_text_length_le (k:=1920) aA h;rw[PySem.ofString_length];lia
theorem Qmi{n:Int}(h:HQ):QqN (.int n)=jo1:=by
 show(if HQ then jo1 else nO)=_;rw[bW h]
theorem QkQ{c:Bool}{A B:Prop}(e:pX)(h:A):if pX then A else B:=by rw[bW e];exact h
theorem Wc(x y:Str):zP2=yO:=strLen_append ..
theorem Qkd{f:Addr}{fd:FuncData}(F:Fun K "__init__" "NoText.__init__" KH f fd)(y:mg "RoomError"=sO (aC R))(z:specialIn K (aC R) "__getattribute__"=RD)
  (r:readsIn K R oE=true) (p:findCls K (aC R) oE "__init__"=sO (.val He)):FnOk P w K mg base A4 1 f fd zG (Qqk K):=by
 obtain⟨L,J,kV,G,pm,N,I,ct,u,rfl,lk,d⟩:=F.ex;refine QkL lk d Qkp (λo H Q E ⟨a,n,C,e,_⟩=>u8 e) λA b s H o Q E M c=>?_;obtain⟨a,n,C,rfl,j,l,i,x,v,q⟩:=c;refine⟨_,WO (QgA (QiH (t:=_) QqU Qjd rfl y z r p (Ve (pv 0) (Ve (Qkw (.cons QgX (.cons (Qoi (pv 1)) (.cons QgX .nil)))) U1)))) (Uj (QkZ (pv 0) (pv 1))),?_⟩;have m:=Ql5 j;refine⟨_,rfl,_,rfl,?_,_,rfl,_,Qmi j,_,rfl,?_,_,rfl,?_,?_⟩
 ·rw[Wc];decide
 ·rw[Wc,Wc];have h:zY5:=a'
  have g:(5000:Nat)<=sizeLine:=a'
  exact Ng (DZ h m) (Ng (a':100+4000<=5000) g)
 ·rw[Wc,Wc,Wc];have h:zY5:=a'
  have B:(Str.ofString " is no row of a program here").length<=100:=a'
  have g:(5000:Nat)<=sizeLine:=a'
  exact Ng (DZ (DZ h m) B) (Ng (a':100+4000+100<=5000) g)
 ·refine⟨a,C,nO,_,rfl,l,i,x,_,rfl,_,rfl,a,C,rfl,l,i,v,λD hd=>q D hd⟩
structure Cls(K:Nd)(mg:c')(R:Addr)(cs:cV)(fI:Addr)(fdI:FuncData)(oI:Obj):Prop where
 kit:Kit K R cs
 len:cs.length=7
 mR:mg "RoomError"=sO (aC R)
 ms:[zN8,mg "NoText",mg "NoWord",mg "NoPlace",mg "TooBig",mg "NoRow",mg "NoName"]=cs.map λc=>sO (aC c)
 x0:XM K (cs.getD 0 0) nO
 x1:XM K (cs.getD 1 0) (sO Pn)
 rf:findCls K (aC R) oE "__init__"=sO (.val He)
 na:findIn K (.ref (cs.getD 1 0)) "at"=sO nO
 fn:Fun K "__init__" "NoText.__init__" KH fI fdI
 bd:Binds K fdI zG []
 lk:K.lookup fI=sO oI
 cl:oI.cls=Bl
structure CalX(P:Program)(w:World)(K:Nd)(mg:c')(base:Heap)(k:Nat)(x:Str)(ps:aD)(cs:cV)(g:FMX):Prop where
 ex:∃(f:Addr) (fd:FuncData),FnOk P w K mg base A4 k f fd ps (Qrj K cs ps.length g)/\mg x=sO (aC f)/\keepIn K (aC f)=true/\Bi
noncomputable def JS:SMX:=Qcu (okX (Q6 5 (mMt "str" Jm dF (Qb jN Ql))))
  (Qmr (KW (QD 1 QS gO)) (okX (QG (VQ (mMt "list" ZI aK (Qb (Qi wIx hY aM) Ql)))
  (VQ (mMt "list" ZI aV (Qb j9 Ql))))) (Qcu (okX (Q6 6 (QD 1 QL gO)))
  (Qcu (Qmr (UW (QB (Qi wIs dY nG)) (VN (KW aV))) (QbC 1 (Qb cB Ql)) (okX Q7))
  (okX (VQ (mMt "list" ZI (Qi wIx aV (mUn GM aM)) (Qb dY Ql)))))))
noncomputable def JZ:FMX:=Qhg 7
  (Qcu (okX (Q6 1 j9))
  (Qcu (okX (Q6 2 j9))
  (Qcu (Qo6 (Kl (Qb (mMt "str" Jm aE sS) Ql)) u4
  JS)
  (Qcu (okX (Q6 7 (mFn J8 (Qb (Zc Jd (Qak (Qb aK (Qb aV Ql))) rZ P4 KS (mFn Xf (Qb aE (Qb (mFn J8 (Qb aK Ql)) Ql)))) Ql))))
  (Qcu (Qmr (VN (KW (QD 1 Q2 (Qb dS Ql)))) (Qg3 0 (Qb (mC (.str "the parts of this text are no program")) Ql)) (okX Q7))
  (okX (ZU dS)))))))
set_option maxHeartbeats 4000000 in
theorem QgL{j:cV}{u:Addr}{o:FuncData}{v:Obj}(T:Cls K mg R j u o v)(d:zq4)(g:HW)(h:jP)(l:N')(b:Cal P w K mg base 3 "is_part_row" gV QS)(e:Cal P w K mg base 5 "is_program" cY Q2)(a:Cal P w K mg base 4 "line_of_words" gV QL):CalX P w K mg base 6 "read_program" rO j JZ:=by
 obtain⟨f,fd,F,G,I⟩:=d.ex;have N:FnOk P w K mg base A4 1 u o zG (Qqk K):=Qkd T.fn T.mR T.kit.ga T.kit.rd T.rf;have t:=T.bd;have D:=T.lk;have L:=T.cl;have M:=T.x0;have M1:=T.x1;have y:=T.na;have n:=T.len;have r:j.getD 1 0∈j:=by rw[Ec,Nl (Np aA (dX n))];exact Dj _
 have z:=T.kit.mv _ r
 have C:zN8=sO (.ref (j.getD 0 0)):=by
  have:=congrArg (·[0]?) T.ms;simp only[Io,Nx,Nl (show 0<j.length by exact Np aA (dX n)),Dp,Yay]at this;rw[this,Ec,Nl (show 0<j.length by exact Np aA (dX n))];rfl
 have B:mg "NoText"=sO (.ref (j.getD 1 0)):=by
  have:=congrArg (·[1]?) T.ms;simp only[Il,Io,Nx,Nl (show 1<j.length by exact Np aA (dX n)),Dp,Yay]at this;rw[this,Ec,Nl (show 1<j.length by exact Np aA (dX n))];rfl
 refine⟨f,fd,Qoh (k:=5) (more:=7) F sc_read_program rfl (λJ A p s H E m=>?_),G,F.kp,I⟩;show dO O m;refine Mj
 ·show kD;show qG;show bH;show kG;show bE
 refine Mj
 ·show kD;show qG;show bH;show kG;show bE
 refine XY (Qnf (λok=>Qkf ok.frames) rfl ?_ ?_ ?_ P5) ?_
 ·refine Qay ?_ ?_ ?_ ?_;show CO g;show aB;show B6;exact Qc 0;show aB;show dV;show fP
 ·refine VU (is:=[3,4]) ?_ ?_ ?_ ?_;exact rfl;refine Q8 (i:=3) (x:="at") sc_read_program.nd rfl dA ?_ ?_;refine Q8 (i:=4) (x:="row") sc_read_program.nd rfl dA ?_ ?_;exact VV
  show fK
  show fK
  show iK
 ·refine Mj
  ·show kD;show qG;show bH;show B6;exact Qc 4;show aB;show dV;show bE
  refine W4 (Qlj ?_ (Qey ?_) ?_)
  ·refine ZJ ?_;refine Qt (k:=3) (ps:=gV) ?_ ?_ ?_ ?_ ?_ ?_ ?_ ?_;exact b;exact m.mono aA;exact rfl;show aB;exact Qc 5;show fP;show aN
  ·show jW;show xZ;exact Qc 1;show aB;show jB;exact Qc 5;show pF;show hX;show xZ;exact Qc 2;show aB;show kG;exact Qd
  refine Mj
  ·show kD;show qG;show bH;refine Qt (k:=4) (ps:=gV) ?_ ?_ ?_ ?_ ?_ ?_ ?_ ?_;exact a;exact m.mono aA;exact rfl;show aB;exact Qc 5;show fP;show aN;show bE
  refine XY (Qlj ?_ (W4 (Qfh (c:=1) (m.mono aA) M1 N t D L z y rfl rfl B ?_)) (Qey ?_)) (W4 (QbR ?_))
  ·show lO;refine Y';exact Qc 6;exact YW;show mE;show j5;exact Qc 2
  ·exact Qa (Qc 3) Qd
  ·exact QA
  ·show xZ;show jB;exact Qc 2;show oA;show aB;exact Qc 6;exact Qd
 refine Mj
 ·show kD;show qG;show bH;show oV;show CO h;show aB;refine VB Z1 ?_ (Z0 (Nb:=ZB) (cp:=rZ) rfl bB bB rfl rfl) ?_ cW cW;exact rfl;refine zD3;show CO l;show aB;exact Qc 1;show aB;exact Qc 2;show fP;exact rfl;refine VU (is:=[0,1]) ?_ ?_ ?_ ?_;exact rfl;refine Q8 (i:=0) (x:="name") (show List.Nodup (ZB:aD)from fW) rfl dA ?_ ?_;refine Q8 (i:=1) (x:="body") (show List.Nodup (ZB:aD)from fW) rfl dA ?_ ?_;exact VV
  show fK
  show fK
  show iK;show eG;show aB;exact Qc 0;show aB;show oV;show CO h;show aB;exact Qc 1;show fS;show aN;exact Qd;show fS;show aN;show bE
 refine XY (Qlj ?_ (W4 (QfP (c:=0) m.hd M rfl rfl C ?_)) (Qey ?_)) (W4 (QbR ?_))
 ·show j5;refine Qt (k:=5) (ps:=cY) ?_ ?_ ?_ ?_ ?_ ?_ ?_ ?_;exact e;exact m.mono aA;exact rfl;show aB;exact Qc 7;show fP;show aN
 ·exact Qa Qj Qd
 ·exact QA
 ·refine Qp ?_;exact Qc 7
#print "-"
noncomputable abbrev Z5:Stmt:=top 67
noncomputable abbrev NRf:aD:=["text","at","told","e","others"]
theorem sc__law_refused:FnScope NRf wB (Qn Z5):=dG
theorem Qld:bootBuiltins "ValueError"=sO oY:=fW
noncomputable def g7(x:Ex)(σ:MSt):Pd:=match σ with
 |[sO t,sO r,_,_,_]=>match x.at_ with
  |gA n=>if x.c=1 then sO [sO t,sO r,aS n,nO,sO wI]else nO
  |none=>nO
 |_=>nO
theorem Qmu{me:ME}{σ:MSt}{h h':MH}{ws:aH}(e:Qb me Ql σ h=sO (ws,h')):ws.length=1:=by
 unfold Qb Ql at e;simp only[Nc]at e;obtain⟨p,_,a⟩:=e;simp at a;obtain⟨b,_⟩:=a;rw[<-b];rfl
noncomputable def Xk:FM:=QN 3 (QG (Q6 2 nG) (QG (QgS (Qb aE Ql) JZ g7)
 (ZU (QcR (mFn QcG (Qb aV (Qb (mC (.ty "int")) Ql))) (QcR (Qp4 (mFn QcG (Qb aV (Qb (mC (.ty "bool")) Ql)))) (Qi wEq aV aK))))))
theorem QtS{a:Type}:∀{l:g8},l.length=5->∃f e d c b,l=[f,e,d,c,b]
 |[_,_,_,_,_],_=>⟨_,_,_,_,_,rfl⟩
theorem Qb8{K:Nd}{t:Value}:∀{l:aZ},(∀c∈l,kitOne K t c=sO false)->kitAny K t l=sO false:=by
 intro l
 induction l with
 |nil=>
  intro _;exact rfl
 |cons c l a=>
  intro h;unfold kitAny;rw[h c aF];exact a λd hd=>h d (Nt _ hd)
theorem QmR{H:Hp}{dd:dW}{fs:pC}{p:Addr}{o:HO}(h:zi9)(n:mG):XD (lG p) dd fs:=by
 cases dd with
 |none=>exact h
 |some a=>show upd H p o a=_;rw[QE (Zo (show H a=_ from h) n)];exact h
section
variable{P:Program}{w:World}{K:Nd}{mg:c'}{base:Heap}{R c0 c1 c2 c3 c4 c5 c6 fI:Addr}{fdI:FuncData}{oI:Obj}
set_option maxHeartbeats 4000000 in
theorem Wr(T:Cls K mg R yB fI fdI oI)(d:DefAt K mg "_law_refused" Z5 wB)(g:mg "bool"=nO)(o:C1)(c:qF)(bV:mg "ValueError"=nO)(CR:CalX P w K mg base 6 "read_program" rO yB JZ):Cal P w K mg base 7 "_law_refused" wB Xk:=by
 have m0:zN8=sO (aC c0):=by have:=congrArg (·[0]?) T.ms;show iA
 have m1:mg "NoText"=sO (aC c1):=by have:=congrArg (·[1]?) T.ms;show iA
 have m2:mg "NoWord"=sO (aC c2):=by have:=congrArg (·[2]?) T.ms;show iA
 have m3:mg "NoPlace"=sO (aC c3):=by have:=congrArg (·[3]?) T.ms;show iA
 have m4:mg "TooBig"=sO (aC c4):=by have:=congrArg (·[4]?) T.ms;show iA
 have m5:mg "NoRow"=sO (aC c5):=by have:=congrArg (·[5]?) T.ms;show iA
 have m6:mg "NoName"=sO (aC c6):=by have:=congrArg (·[6]?) T.ms;show iA
 obtain⟨fF,ae,FF,gF,kF,bF⟩:=CR.ex;refine Q4 (k:=6) (more:=3) d sc__law_refused rfl λf Q A j s H E hr=>?_;have hu:=hr.units;refine Qg ?_ (Qg ?_ ?_)
 ·show kD;exact sc__law_refused.nd;show bH;exact YW;show bE
 ·refine Qlk (X:=(Qg8 CX0 P w K mg base NRf "_law_refused" (Qn Z5) f Q A j s H E).nox) (i:=3) (n:="e") FF hr rfl gF kF bF ?_ rfl rfl T.mR T.kit.xR sc__law_refused.nd rfl rfl wC (λa=>
   WO (Qf1 (i:=4) sc__law_refused.nd rfl dA (WL QfK rfl c N9 (Ve (pv 3) (Ve (Qjl (Ve (Ki (v:=aG c6) rfl m6 rfl) (Ve (Ki (v:=aG c3) rfl m3 rfl) (Ve (Ki (v:=aG c0) rfl m0 rfl) (Ve (Ki (v:=aG c5) rfl m5 rfl) (Ve (Ki (v:=aG c2) rfl m2 rfl) (Ve (Ki (v:=aG c4) rfl m4 rfl) U1))))))) U1))))
   (Uj (Qk4 (PW.pt (QfR (Qgh (WL Qbf rfl c N9 (Ve (pv 3) (Ve (Ki (v:=aG c1) rfl m1 rfl) U1))))
     (QfR (Qgh (WL Qbf rfl c N9 (Ve (pv 3) (Ve (QgI (v:=.ty "ValueError") rfl bV Qld rfl) U1)))) (QfX (Qjg (Qgh (pv 4)))))))
    (Uj (Qf1 (i:=2) sc__law_refused.nd rfl dA (QmY (pv 3)))) Qft))) ?_ (λ_ _ _ _ e=>Qmu e)
  ·refine Qa ?_ Qd;exact Qc 0
  ·intro x aa ab h Rr h' S σ a C dd fs D rh st hC N hd M en;obtain⟨sl,sg⟩:=st;have nd:=T.kit.nd
   have L:kitAny K (aC c1) ([c6,c3,c0,c5,c2,c4].map Value.ref)=sO false:=Qb8 λv hv=>by
    obtain⟨d,hd,rfl⟩:=NI.mp hv;have h1:c1∈yB:=aY
    have h2:d∈yB:=by simp at hd ⊢;rcases hd with rfl|rfl|rfl|rfl|rfl|rfl<;>simp
    rw[T.kit.kk c1 h1 d h2];congr 1;rw[beq_eq_false_iff_ne];intro z;subst z;simp at nd hd
    rcases hd with rfl|rfl|rfl|rfl|rfl|rfl<;>simp at nd
   unfold g7 at h;split at h
   ·rename_i t r y2 y3 y4;split at h
    ·show pI n F h
     ·rename_i hx;cases h;obtain⟨v0,s0,r0⟩:=sg 0 _ rfl;obtain⟨v1,s1,r1⟩:=sg 1 _ rfl;obtain⟨J,I,Z,Y,U,rfl⟩:∃J I Z Y U,σ=[J,I,Z,Y,U]:=QtS (by rw[<-sl];rfl);obtain rfl:J=sO v0:=cL s0
      obtain rfl:I=sO v1:=cL s1
      rw[hx]at hC;have O:C=c1:=hC;subst O;have B:C∈[c0,C,c2,c3,c4,c5,c6]:=aY
      have y:=T.kit.xc C B;obtain⟨dx,rfl,rfl⟩:=M n F;refine⟨y,T.kit.mr C B,?_⟩;refine⟨_,rfl,(show(6:Nat)<=sizeLine by decide),λp G=>⟨a,C,_,_,p,[c6,c3,c0,c5,c2,c4],false,rfl,yG N G,QmR hd G,y,Zq,L,?_⟩⟩;have keep:∀b u,S b=sO u->upd S p jd4 b=sO u:=λb u e=>yG e G
      have m:=keep _ _ N;have l:XD (upd S p jd4) (sO dx) S3:=QmR hd G;refine⟨_,rfl,a,C,_,_,aG C,true,rfl,rfl,m,l,y,(T.kit.kk C B C B).trans aF,true,rfl,QkQ rfl ?_⟩;refine⟨_,rfl,a,C,_,_,.ty "ValueError",true,rfl,rfl,m,l,y,T.kit.kv C B,true,rfl,QkQ rfl ?_⟩;refine⟨_,rfl,false,rfl,QkQ rfl ?_⟩;refine⟨_,rfl,a,C,dx,_,aL n,rfl,m,l,y,T.na,rfl,?_⟩;refine en Rr _ _ c9 (Mi.Rh.up rh keep) ⟨rfl,λi w hw=>?_⟩
      match i,hw with
      |0,hw=>cases hw;show Cy r0
      |1,hw=>cases hw;show Cy r1
      |2,hw=>cases hw;exact⟨_,rfl,Rw.int _⟩
      |3,hw=>cases hw
      |4,hw=>cases hw;exact⟨_,rfl,Rw.bl _⟩
     ·cases h
    ·cases h
   ·cases h
 ·show bM;show pL;show v3;show CO c;show aB;exact Qc 2;show aB;exact QaA rfl o Fy;show fS;show aN;show pL;refine QoM ?_;show v3;show CO c;show aB;exact Qc 2;show aB;exact QaA rfl g PyProof.Rows.boot_bool;show fS;show aN;show xT;refine Xo (QW ?_) Qh ?_ ?_;exact hu;exact Qc 2;exact Qc 1
noncomputable def Zs:FM:=box frN Xk
theorem Wt(T:Cls K mg R yB fI fdI oI)(d:DefAt K mg "_law_refused" Z5 wB)(b:mg "bool"=nO)(c:C1)(a:qF)(e:mg "ValueError"=nO)(CR:CalX P w K mg base 6 "read_program" rO yB JZ):Cal P w K mg base 7 "_law_refused" wB Zs:=(Wr T d b c a e CR).box frN
#print "-"
section
variable{P:Program}{w:World}{K:Nd}{mg:c'}{base:Heap}
noncomputable abbrev Qav:Stmt:=top 68
theorem sc_law:FnScope ["script","program","rows","k","number","spoilt","turn","at"] u6 (Qn Qav):=dG
noncomputable abbrev YM:SM:=(QG (Q6 7 (Qi JL (QD 2 Qw (Qb aE (Qb (Qi Zd (Qi Zd (mC (.int 320)) (Qi JV bY cB)) dY) Ql))) (mFn JT (Qb aV Ql))))
  (Qc3 hY dS (QD 2 Jp (Qb (Qi wIx aV dS) (Qb (QD 2 Qw (Qb aE (Qb (Qi Zd (Qi Zd (mC (.int 340)) (Qi JV bY cB)) dY) Ql))) Ql)))))
noncomputable abbrev YU:SM:=(QG (Q6 4 (QD 2 Qw (Qb aE (Qb (Qi Zd (mC (.int 300)) cB) Ql))))
  (QG (Q6 5 (mFn Qdi (Qb aV Ql)))
  (QG (JX (KA (Qb (Qi Zd aM (Qi JL dF bY)) Ql)) (ZK 6)
  YM)
  (QG (Ju (QB (Qi wEq (Qi JL (Qi V8 dF bY) pB) bC)) (Q6 5 (Qi Qei (mSl hY (ZW aM) Ji) (mFn JB (Qb (Qi wIx aV bC) Ql)))) Q7)
  (QG (Ju (QB (Qi wEq (Qi JL (Qi V8 dF bY) pB) aM)) (VQ (mMt "list" ZI hY (Qb Bw Ql))) Q7)
  (QG (Ju (QB (Qi wIs (QD 1 QX gO) nG)) (Qc3 hY (Qi JL (Qi V8 dF vX) (mFn JT gO)) jB3) Q7)
  (Ju (VN (KW (QD 2 Zs (Qb (mMt "str" Xp Id gO) (Qb (QD 1 QX gO) Ql))))) hA Q7)))))))
noncomputable def Y5:FM:=QN 7
  (QG (Q6 1 (QD 2 Jr (Qb aE (Qb (QD 2 Z8 (Qb aE (Qb zK5 Ql))) Ql))))
  (QG (Q6 2 (QD 1 Vh (Qb aK Ql)))
  (QG (JX (KA (Qb pB Ql)) (ZK 3)
  YU)
  (ZU (Qi wEq (QD 1 JC (Qb (mMt "str" Xp Id (Qb aV Ql)) Ql)) aK)))))
set_option maxHeartbeats 4000000 in
theorem QlW(d:DefAt K mg "law" Qav u6)(r:dR)(n:mg "list"=nO)(m:tP)(i:Cal P w K mg base 2 "_law_backed" vI Jr)(a:ja0)(j:AK)(g:Cal P w K mg base 8 "_law_program" vR Z8)(e:Cal P w K mg base 7 "_law_refused" wB Zs)(l:Cal P w K mg base 2 "_law_rows" cJ Vh)(h:Cal P w K mg base 1 "_law_spoilt" vS Jp)(c:Cal P w K mg base 6 "read_program" rO JC):Cal P w K mg base 9 "law" u6 Y5:=by
 refine Q4 (k:=8) (more:=7) d sc_law rfl λf t A o s H E b=>?_;show dO p b;show bR;show CI;show bH;show cK b;exact Qc _;show aB;show cK b;exact Qc _;show aB;exact Qf;show fP;show aN;show fP;show aN;show bE
 show bR;show CI;show bH;show cK b;show aT;exact rfl;show aN;show bE
 show iJ;show o9;show cC;show aB;exact Qf;show fP;exact QM sc_law.nd rfl dA;show bR;show CI;show bH;show cK b;exact Qc _;show aB;show bX;exact Qf;show aT;exact rfl;show aN;show bE
 show bR;show CI;show bH;refine ZH Qcb Qo ?_ ?_ Om ?_ ?_ ?_ ?_ ?_;show cC;show aB;show aT;decide;show aN;show bE
 show iJ;show o9;show cC;show aB;show bX;exact Qf;show i8;show dH;show fP;exact QM sc_law.nd rfl dA;show bR;show CI;show bH;show i8;show cK b;exact Qc _;show aB;show bX;show bX;exact Qf;show lX;show BR;show aT;exact rfl;show aN;show eJ;show aB;show aT;decide;show aN;show bE
 show RC;exact Qc _;show cK b;show gC;exact Qc _;show aB;show cK b;exact Qc _;show aB;show bX;show bX;exact Qf;show lX;show BR;show aT;exact rfl;show aN;show fP;show aN;exact d7;show iK;exact d7;show cU;show dP p;show jK;show Ci;show hX;show kD;show CI;show bH;refine Qs Qdh Qh ?_ ?_;show jM;show wL;show d8;show aB;show bO;exact Qd;show bE
 exact QA;show cU;show dP p;show jK;show Ci;show kX;show aB;show dV;exact QA;show cU;refine Y';show cK b;show aT;exact rfl;show aN;exact YW;show RC;show jK;show eJ;show aB;show aT;decide;show aN;exact Qj;exact d7;show iK;exact QA;show mO;show j5;show cK b;show vA;show aB;show aT;show aB;show cK b;show aT;exact rfl;show aN;show fP;show aN;show bM;show i9;exact d7;show bM;show AV p;show cK b;show vA;show aB;show aT;show fP;show aN;exact Qc _
#print "-"
noncomputable abbrev Ln:=aD
noncomputable def Qz(l:Ln):W:=.tup (gW l)
noncomputable def Jy(xs:aD):W:=.lst tO
noncomputable abbrev Pt:=Str×d4
noncomputable def Zm(p:Pt):W:=.tup [.str p.1,z6 p]
noncomputable def Zb(p:c8):W:=.tup (g9 p)
theorem Qh2:∀{ws:aH},(∀w∈ws,zi5)->zi7:=by
 intro ws
 induction ws with
 |nil=>
  intro _;exact rfl
 |cons w ws a=>
  intro h;unfold WU;rw[h w NG,a (iV x b h)];rfl
theorem Qi5{n:Nat}:∀{ws:aH},(∀w∈ws,dep w<=n)->UN ws<=n:=by
 intro ws
 induction ws with
 |nil=>
  intro _;exact Eg _
 |cons w ws a=>
  intro h;unfold UN;exact Nat.max_le.mpr ⟨h w NG,a (iV x b h)⟩
theorem Gz{f:a->W}{xs:g8}(h:∀x,pln (f x)=true):WU zh7=true:=Qh2 λw hw=>by show HJ x;exact h x
theorem Qaj{f:a->W}{xs:g8}(h:∀x,dep (f x)<=n):UN zh7<=n:=Qi5 λw hw=>by show HJ x;exact h x
@[simp]theorem X4{xs:aD}:WU tO=true:=Gz d7
theorem VC{xs:aD}:UN tO<=1:=Qaj λ_=>Ny _
@[simp]theorem QnV{l:Ln}:pln pV=true:=by unfold Qz pln;exact X4
theorem QqH{l:Ln}:dep pV<=2:=by unfold Qz dep;have:=VC (xs:=l);exact Nk this aA
@[simp]theorem GY{xs:aD}:pln CM=true:=by unfold Jy pln;exact X4
theorem QcA{xs:aD}:dep CM<=2:=by unfold Jy dep;have:=VC (xs:=xs);exact Nk this aA
@[simp]theorem QmD{ls:d4}:WU n0=true:=Gz λ_=>QnV
theorem Qmg{ls:d4}:UN n0<=2:=Qaj λ_=>QqH
@[simp]theorem Qqn{p:Pt}:pln (Zm p)=true:=by simp[Zm,pln,WU]
theorem QqV{p:Pt}:dep (Zm p)<=4:=by simp[Zm,dep,UN];have:=Qmg (ls:=p.2);exact this
@[simp]theorem QgU{ps:c8}:WU (ps.map Zm)=true:=Gz λ_=>Qqn
@[simp]theorem Qis{ps:c8}:pln (Zb ps)=true:=by unfold Zb pln;exact QgU
theorem QnM{ps:c8}:dep (Zb ps)<=5:=by unfold Zb dep;have:=Qaj (xs:=ps) (n:=4) (λx=>QqV (p:=x));exact Nk this aA
@[simp]theorem QtU{l:Ln}:pur pV=true:=GV _ QnV
@[simp]theorem Qpy{xs:aD}:pur CM=true:=GV _ GY
@[simp]theorem QsH{ps:c8}:pur (Zb ps)=true:=GV _ Qis
@[simp]theorem QhS{xs:aD}:Vj tO=true:=Kq _ X4
@[simp]theorem Qqd{ls:d4}:Vj n0=true:=Kq _ QmD
@[simp]theorem Qq1{ls:c8}:Vj (ls.map Zm)=true:=Kq _ QgU
@[simp]theorem QtB{i:Int}:pur d3=true:=aW
@[simp]theorem Qtg{x:Str}:pur cM=true:=aW
@[simp]theorem Qtz{ws:aH}:pur wT=Vj ws:=zF6
@[simp]theorem QsI{ws:aH}:pur kO=Vj ws:=zF6
@[simp]theorem QsW{ws:aH}:pur (.frz ws)=Vj ws:=zF6
@[simp]theorem Qr4:Vj []=true:=aW
@[simp]theorem Qqx{ws:aH}:Vj (w::ws)=(pur w&&Vj ws):=by rw[Vj]
@[simp]theorem QrE{ws us:aH}:Vj (ws++us)=(Vj ws&&Vj us):=by
 induction ws with
 |nil=>simp
 |cons w ws a=>simp[a,Bool.and_assoc]
@[simp]theorem QoJ{ns:eX}:Vj (ns.map .int)=true:=by
 induction ns with
 |nil=>rfl
 |cons n ns a=>simp[a]
@[simp]theorem Qr1{ws:aH}:Qek kO=Vj ws:=aW
theorem KY{n:Nat}(h:n<=1000000):zf9:=Ng h aA
theorem Qnl{n:Nat}(h:n<=1000000):n<sizeLine:=Nk h aA
@[simp]theorem Qrt:1<=sizeLine:=a'
@[simp]theorem Qsm:2<=sizeLine:=a'
@[simp]theorem QrI:3<=sizeLine:=a'
@[simp]theorem Qsl:4<=sizeLine:=a'
@[simp]theorem Qsf:5<=sizeLine:=a'
@[simp]theorem QrQ:8<=sizeLine:=a'
@[simp]theorem Qrq:10<=sizeLine:=a'
theorem Qo7{xs:gN b}{i:Int}{P:b->Prop}{f:b->W}(h0:0<=i)(h1:MS)(c:∀x∈xs,P x):∃x,x∈xs/\P x/\atI zh7 i=sO (f x):=by
 show zn4
 have a:n<xs.length:=aU
 exact⟨xs[n],Dj a,c _ (Dj a),by rw[Jx,Nx,Nl a];rfl⟩
theorem QqW{ys:aH}(c:zi6)(py:WU ys=true)(e:zl3)(d:UN ys<=40):wIn neg a u9 h=zY1:=by
 show((lsW h u9).bind λys=>(drf h 40 a).bind λx=>(Vi n9 ys).map λb=>(W.bl (RY b),h))=_;simp only[lsW,Ni];rw[K8 h a 40 c e,KC h ys 40 py d];rfl
theorem Ql1{ys:aH}(c:zi6)(py:WU ys=true)(e:zl3)(d:UN ys<=40):wIn neg a zk3 h=zY1:=by
 show((drf h 40 a).bind λx=>(Vi n9 ys).map λb=>(W.bl (RY b),h))=_;rw[K8 h a 40 c e,KC h ys 40 py d];rfl
@[simp]theorem Qrr{xs:aD}:JT [Jy xs] h=sO (.int xs.length,h):=by unfold Jy;simp
@[simp]theorem Qsz{xs:aD}:wIx CM d3 h=@om _ _ zQ7 (atI tO i):=by unfold Jy;simp
@[simp]theorem Qud{xs:g8}:atI xs 2=xs[2]?:=Jx (n:=2)
@[simp]theorem Qt7{xs:g8}:atI xs 3=xs[3]?:=Jx (n:=3)
@[simp]theorem Quo{xs:g8}:atI xs 4=xs[4]?:=Jx (n:=4)
theorem QfF{n j:Nat}(h:(Zj a n)[j]?=sO w):j<n/\w=.int (a+j):=by
 have b:=cG h;simp[Zj]at b;show Aq b;unfold Zj at h;rw[Nx,De b]at h;cases h;rfl
theorem QmC{a b:Char}(h:a.toNat=b.toNat):a=b:=by
 have:a.val=b.val:=by
  apply UInt32.toNat_inj.mp;exact h
 exact Char.ext this
theorem UA:∀{a b:List Char},a.map Char.toNat=b.map Char.toNat->a=b
 |[],[],_=>rfl
 |[],_::_,h=>gG h
 |_::_,[],h=>gG h
 |x::a,y::b,h=>by
  simp only[NA,List.cons.injEq]at h;rw[QmC h.1,UA h.2]
@[simp]theorem QpR{a b:String}:(Str.ofString a=Str.ofString b)↔a=b:=by
 constructor
 ·intro h;rw[On,On]at h;have c:=UA (List.toArray_inj (Str.mk.inj h));exact String.toList_inj.mp c
 ·intro h;rw[h]
#print "-My"
namespace My3
inductive Cd where
 |ei|ag|oo|en|ot
 deriving DecidableEq
structure En where
 kd:Cd
 fs:Nat
 md:Nat
noncomputable def ch:Cd->Int
 |.ei=>1
 |.ag=>1
 |.en=>-1
 |_=>0
noncomputable def stp(k:Nat)(c:Cd)(st:List En):Option (List En):=match c with
 |.ei=>sO (⟨.ei,k,0⟩::st)
 |.ag=>sO (⟨.ag,k,0⟩::st)
 |.oo=>match st with
  |e::r=>if e.kd=.ei then sO (⟨.oo,e.fs,k⟩::r)else nO
  |[]=>nO
 |.en=>match st with
  |e::r=>if e.kd=.ei then nO else sO r
  |[]=>nO
 |.ot=>sO st
#print "-My3"
namespace My4
open My3
noncomputable def kst:Cd->uJ->Option (List Cd)
 |.ei,s=>sO (.ei::s)
 |.ag,s=>sO (.ag::s)
 |.oo,s=>match s with
  |e::r=>if e=.ei then sO (.oo::r)else nO
  |[]=>nO
 |.en,s=>match s with
  |e::r=>if e=.ei then nO else sO r
  |[]=>nO
 |.ot,s=>sO s
noncomputable def YD:uJ->uJ->Option (List Cd)
 |[],s=>sO s
 |c::ls,s=>(kst c s).bind (YD ls)
theorem X3:∀(ls ms:uJ) (s:uJ),YD (ls++ms) s=(YD ls s).bind (YD ms):=by
 intro ls
 induction ls with
 |nil=>
  intro ms s;exact rfl
 |cons c ls a=>
  intro ms s;show(kst c s).bind (YD (ls++ms))=((kst c s).bind (YD ls)).bind (YD ms);cases kst c s with
  |none=>rfl
  |some t=>exact a ms t
theorem QiF(h:YD ls s=sO t)(k:kst c t=sO u):YD (ls++[c]) s=sO u:=by
 rw[X3,h];show(kst c t).bind _=_;rw[k];rfl
#print "-My4"
namespace My
open L2 Mi My3 My4
theorem Kn(e:CV=sO ([aL j],h'))(a:j<1000000):KA ms σ h=sO (Zj 0 j,nO,h'):=by
 unfold KA;rw[e,Ni];exact(if_pos ⟨aU,aU⟩).trans aF
theorem Xt:(Zj a n).length=n:=by simp[Zj]
noncomputable def keptN:aD:=zU5
structure Nm(x:Str):Prop where
 lo:1<=x.length
 hi:zh0
 sm:∀c∈x.cps.toList,97<=c/\c<=122
 kp:x∉keptN
theorem app_cps(x y:Str):zp1:=by show zx8
inductive PlainL(bs ws:aD):Ln->Prop where
 |pair {x w y z:Str} (hx:x∈bs) (hw:w∈ws) (hy:AE) (hz:z∈bs):PlainL bs ws Bm
 |first {x y:Str} (hx:x∈bs) (hy:AE):PlainL bs ws BI
 |second {x y:Str} (hx:x∈bs) (hy:AE):PlainL bs ws BA
 |same {x y:Str} (hx:x∈bs) (hy:AE):PlainL bs ws BS
 |none {x:Str} (hx:x∈bs):PlainL bs ws A2
 |tell {x:Str} (hx:x∈bs):PlainL bs ws zj0
theorem Qbr{xs:aD}{i:Int}(h0:0<=i)(h1:MS):∃x,x∈xs/\atI M8 i=bA x:=by
 obtain⟨x,a,_,e⟩:=Qo7 (xs:=xs) (f:=W.str) (P:=λ_=>True) h0 h1 (λ_ _=>True.intro);exact⟨x,a,e⟩
theorem Yy(x:Str):jp5:=by unfold Str.length;simp
noncomputable def cd(x:Str):Cd:=if Pj then .ei else if PF then .ag else if x="or"then .oo else if x="end"then .en else .ot
noncomputable def cdL:Ln->Cd
 |[]=>.ot
 |x::_=>cd x
inductive LineOk(bs ws later:aD):Ln->Prop where
 |plain {l:Ln} (h:w6):LineOk bs ws later l
 |do {x:Str} (h:x∈later):LineOk bs ws later ["do",x]
 |blk {x:Str} (h:Pj\/PF\/x="or"\/x="end"):LineOk bs ws later [x]
 |back {x:Str} (h:x∈ws):LineOk bs ws later zj1
noncomputable abbrev orL:Ln:=["or"]
noncomputable abbrev Qkl:Ln:=["end"]
noncomputable def Kw:Ln->Bool
 |x::_=>x=="do"
 |[]=>false
theorem Qc0{bs ws:aD}(h:w6):zj2:=by cases h<;>(show C2)<;>decide
theorem QaR:cd "either"=.ei:=rfl
theorem QcM:cd "again"=.ag:=a'
theorem Qm6:cd "or"=.oo:=a'
theorem Qnp:cd "end"=.en:=a'
theorem QcQ{bs ws:aD}(h:w6):cdL l=.ot:=by cases h<;>(show cd _=.ot)<;>decide
noncomputable def Yr:Ln->Bool
 |x::_=>x=="back"
 |[]=>false
theorem QhZ(O:aD)(h:O≠[]):∃r x,O=r++[x]:=⟨O.dropLast,O.getLast h,(EJ h).symm⟩
theorem Uz{P:a->Prop}{xs:g8}(h:∀y∈xs,P y)(c:P x):∀y∈xs++[x],P y:=λy b=>by
 show tX b z
 ·exact h y z
 ·rw[j2 z];exact c
theorem QeS{P:Str->Prop}(h:∀z∈xs++[x],P z)(b:P y):∀z∈xs++[y],P z:=Uz (λz a=>h z (Ee _ a)) b
theorem Xr(O:aD)(x:Str):(O++[x]).reverse.map cd=cd x::O.reverse.map cd:=aY
theorem Qc4(L:d4)(l:Ln):(L++[l]).map cdL=L.map cdL++[cdL l]:=aY
structure GoodP(N:Nat)(bs ws:aD)(p:c8):Prop where
 ne:p≠[]
 len:p.length<=5
 bal:∀x∈p,Sf
 sz:∀x∈p,iW<=N
 ok:∀(i:Nat) (x:Pt),p[i]?=sO x->∀l∈x.2,LineOk bs ws ((p.map (·.1)).drop (i+1)) l
 nd:(p.map (·.1)).Nodup
theorem Xs(xs:g8)(k:Nat):Y3 xs (sO cT) nO=xs.drop k:=by
 unfold Y3;rw[HT.sIx_nat,HT.sIx_none]
 by_cases h:k<=xs.length
 ·rw[Nat.min_eq_left h,DO aF]
 ·rw[Nat.min_eq_right (Nv (Ih.mp h)),Dr cO,Dr (Nv (Ih.mp h))];simp
theorem Qnh{k:Nat}(a:i=k):wSl (Jy ns) (sO i) nO h=sO (Jy (ns.drop k),h):=by
 subst a;unfold Jy;simp[Xs,FN]
theorem Qbq(h:o0):∃x r,xP:=by
 cases h with
 |plain h=>cases h<;>exact MC
 |«do» h=>exact MC
 |blk h=>exact MC
 |back h=>exact MC
theorem Qit{A B:uJ}{s:uJ}(h:YD (A++B) []=sO s):∃r,YD A []=sO r:=by
 rw[X3]at h;cases e:YD A []with
 |none=>show rM e h
 |some r=>exact⟨r,rfl⟩
theorem Uh{p:c8}{i:Nat}(h:p[i]?=sO x):atI (g9 p) eB=A9:=zN9 h
@[simp]theorem Qsq:wIx (Qz iQ) uE h=sO (aJ x,h):=by unfold Qz;simp
@[simp]theorem QrC:wIx (Qz (x::y::r)) (.int 1) h=sO (aJ y,h):=by unfold Qz;simp
@[simp]theorem QsV:wIx (Zb p) d3 h=@om _ _ zQ7 (atI (g9 p) i):=by unfold Zb;simp
@[simp]theorem QrG:wIx (Zm x) (.int 1) h=sO (z6 x,h):=zF7
@[simp]theorem Qrz:wIx (Zm x) uE h=sO (.str x.1,h):=zF7
@[simp]theorem Qss:Zd iD u9 h=if S2 then sO (.lst (xs++ys),h)else nO:=aW
theorem XW{a:Type}{motive:g8->Prop}(nil:motive [])(snoc:∀L l,motive L->motive uM)(t:g8):motive t:=by
 rw[<-FC t]
 induction t.reverse with
 |nil=>exact nil
 |cons x r b=>rw[Lq];exact snoc _ _ b
structure Sz where
 pl:Int
 bk:Int
 dp:Int
 wy:Int
noncomputable def YZ(z:Sz):W:=.tup [.int z.pl,.int z.bk,.int z.dp,.int z.wy]
noncomputable abbrev Sd:=List (Str×Sz)
noncomputable def look:Sd->Str->Option Sz
 |[],_=>nO
 |(y,z)::d,x=>if y=x then sO z else look d x
noncomputable def ZG(d:Sd)(l:Ln):Sz:=
 if iO then(look d (l.getD 1 "")).getD tR else if Yr l=true then⟨0,1,0,0⟩else tR
structure Q5 where
 pl:Int
 bk:Int
 lv:Int
 dp:Int
 wy:Int
noncomputable def XX(d:Sd)(q:Q5)(l:Ln):Q5:=
 ⟨q.pl+C3,q.bk+(ZG d l).bk,q.lv+zZ,max q.dp (q.lv+zZ+(ZG d l).dp),q.wy+pG⟩
noncomputable def JU(d:Sd)(q:Q5)(ls:d4):Q5:=ls.foldl (XX d) q
noncomputable def qz:Q5:=⟨0,0,0,0,1⟩
noncomputable def szw(d:Sd)(ls:d4):Sz:=⟨zK8,(JU d qz ls).bk,(JU d qz ls).dp,yX⟩
theorem Zl(d:Sd)(q:Q5)(L:d4)(l:Ln):JU d q uM=XX d (JU d q L) l:=by simp[JU]
theorem Qiz(d:Sd)(q:Q5)(L M:d4):JU d q (L++M)=JU d (JU d q L) M:=by simp[JU]
noncomputable def sd:c8->Sd
 |[]=>[]
 |x::r=>sd r++[(x.1,R8 r x)]
theorem YF{x:Str}:∀{a b:Sd},look (a++b) x=(look a x).orElse λ_=>look b x
 |[],b=>rfl
 |(y,z)::a,b=>by
  show(if y=x then sO z else look (a++b) x)=_
  by_cases h:y=x
  ·rw[bW h];simp[look,h]
  ·rw[cR h,YF];simp[look,h]
theorem QbO:∀(r:c8),(sd r).map (·.1)=(r.map (·.1)).reverse:=by
 intro r
 induction r with
 |nil=>
  exact rfl
 |cons x r a=>
  simp[sd,a]
theorem Qa9{x:Str}:∀{a:Sd},x∉a.map (·.1)->look a x=nO
 |[],_=>rfl
 |(y,z)::a,h=>by
  have h1:y≠x:=λe=>h (kS e);rw[look,cR h1];exact Qa9 λz=>h (by simp at z ⊢;exact gY z)
theorem QbQ:∀{p:c8} {j:Nat} {y:Pt},(p.map (·.1)).Nodup->p[j]?=sO y->look (sd p) y.1=sO (szw (sd (p.drop (j+1))) y.2)
 |x::r,0,y,b,h=>by
  show Ai h;have e:x.1∉(sd r).map (·.1):=by rw[QbO];simp at b ⊢;exact λa f=>b.1 a f
  rw[sd,YF,Qa9 e];simp[look]
 |x::r,j+1,y,b,h=>by
  have c:(r.map (·.1)).Nodup:=(ES.mp b).2;have d:=QbQ (p:=r) c (cD h);rw[sd,YF,d];simp
theorem WX{x:Str}:(Pj/\cd x=.ei)\/(PF/\cd x=.ag)\/(x="or"/\cd x=.oo)\/(x="end"/\cd x=.en)\/((x≠"either"/\x≠"again"/\x≠"or"/\x≠"end")/\cd x=.ot):=by
 unfold cd
 by_cases d:Pj
 ·exact .inl ⟨d,bW d⟩
 rw[cR d]
 by_cases c:PF
 ·exact .inr (.inl ⟨c,bW c⟩)
 rw[cR c]
 by_cases b:x="or"
 ·exact .inr (.inr (.inl ⟨b,bW b⟩))
 rw[cR b]
 by_cases a:x="end"
 ·exact .inr (.inr (.inr (.inl ⟨a,bW a⟩)))
 rw[cR a];exact .inr (.inr (.inr (.inr ⟨⟨d,c,b,a⟩,rfl⟩)))
@[simp]theorem QpJ{r:aD}:JE [Qz iQ] h=sO (.int (ch (cd x)),h):=by
 refine QC (g:=[]) aF ?_ rfl;have b:Qz iQ=.tup (aJ x::rD):=rfl
 show jb3 a e d f c
 show zf2
 show zf2
 show zf2
 show zf2
 ·simp[ZD,QN,b,e,d,c,a,ch]
noncomputable def kvs(d:Sd):gU W:=d.map λe=>(Sum.inr e.1,YZ e.2)
theorem GQ{x:Str}:∀(d:Sd),Qha (kvs d) wY=(look d x).map YZ
 |[]=>rfl
 |(y,z)::d=>by
  unfold Qha kvs look;rw[NA,Di]
  show yM h y x
  ·have:¬(s9 y:Key)=s9 x:=λq=>h (Sum.inr.inj q);simp only[this,decide_false,h,if_false];exact GQ d
theorem Qmx{x:Str}{z:Sz}{d:Sd}(h:x∉d.map (·.1)):Qlf (kvs d) wY (YZ z)=kvs (d++[(x,z)]):=by
 have:((kvs d).any λb=>decide (b.1=s9 x))=false:=by
  rw[Yao];intro b a;unfold kvs at a;show p8 e c a;simp;intro q;exact h (by rw[<-q];exact O6 (f:=(·.1)) c)
 unfold Qlf;rw[this];simp[kvs]
def QpM(l:Ln):Prop:=∃x r,xP/\(x="do"->∃y,r=[y])
theorem Qoz{bs ws la:aD}{l:Ln}(h:o0):QpM l:=by
 cases h with
 |plain h=>cases h<;>exact⟨_,_,rfl,λz=>absurd z aA⟩
 |«do» h=>exact⟨_,_,rfl,λ_=>cN⟩
 |blk h=>rcases h with rfl|rfl|rfl|rfl<;>exact⟨_,_,rfl,λz=>absurd z aA⟩
 |back h=>exact⟨_,_,rfl,λz=>absurd z aA⟩
theorem QhL{l:Ln}{d:Sd}{h:MH}{n:Nat}(i:QpM l)(g:jB4):ZY [Qz l,aG n] h=sO (YZ (ZG d l),h):=by
 obtain⟨x,r,rfl,hd⟩:=i
 by_cases a:x="do"
 ·obtain⟨y,rfl⟩:=hd a;subst a;have e:ZG d jQ=(look d y).getD tR:=rfl;rw[e];simp[ZY,QN,g,GQ];cases look d y<;>rfl
 ·have b:Kw iQ=false:=by show(x==zj3)=false;show lJ a
  unfold ZG;rw[b]
  by_cases f:x="back"
  ·subst f;have c:Yr (("back":Str)::r)=true:=by show((_:Str)==_)=true;decide
   rw[c];simp[ZY,QN,YZ]
  ·have c:Yr iQ=false:=by show(x==("back":Str))=false;show lJ f
   rw[c];simp[ZY,QN,a,f,YZ]
noncomputable abbrev zS(ls:d4)(n:Nat)(q:Q5)(x7 x8:cH):MSt:=[mS,sO (aC n),sO (.int q.pl),sO (.int q.bk),sO (.int q.lv),sO (.int q.dp),sO (.int q.wy),x7,x8]
theorem Qpw{z:Sz}{h:MH}:wIx (YZ z) uE h=sO (.int z.pl,h):=TB
theorem Qpx{z:Sz}{h:MH}:wIx (YZ z) (.int 1) h=sO (.int z.bk,h):=TB
theorem QpB{z:Sz}{h:MH}:wIx (YZ z) (.int 2) h=sO (.int z.dp,h):=TB
theorem QpL{z:Sz}{h:MH}:wIx (YZ z) (.int 3) h=sO (.int z.wy,h):=TB
theorem QcZ{ls:d4}{d:Sd}{h:MH}{n:Nat}(y:∀l∈ls,QpM l)(v:jB4):Q0 [.tup n0,aG n] h=sO (YZ (szw d ls),h):=by
 have c:=JD (items:=uC) (b:=ZK 7) (body:=Kb) (λj o a=>∃m i,o=zS ls n (JU d qz (ls.take j)) m i/\a=h) n0 0 zB6 h ⟨nO,nO,rfl,rfl⟩ (by
  show zl9 p o a m i
  rw[Nx]at p;show l8 l g p;rw[NU]at *;have u:ls.take (j+1)=ls.take j++[l]:=zI g
  have f:=y l (N0 g);have z:=QhL f v;refine⟨_,rfl,zS ls n (JU d qz (ls.take (j+1))) (sO pV) (sO (YZ (ZG d l))),a,j0,_,_,rfl,rfl⟩;rw[u,Zl];obtain⟨x,r,rfl,_⟩:=f;simp[z,Qpw,Qpx,QpB,QpL,XX,cdL]
  split<;>lia)
 obtain⟨t,a,e,m,i,rfl,rfl⟩:=c;rw[Nz,NU,EM]at e;have ei:QP aE zB6 a=sO (uC,nO,a):=rfl
 have s:JX (QP aE) (ZK 7) Kb zB6 a=sO (.nx (zS ls n (JU d qz ls) m i) a):=by
  show sX e
 simp[qz]at s;simp[Q0,QN,s,YZ,szw,qz]
theorem QkC{ls:d4}{h:MH}(a:∀l∈ls,QpM l):JF [.tup n0] h=sO (YZ (szw [] ls),h):=by
 refine QC (g:=uB) aF ?_ zO0;have e:Q0 [.tup n0,uT] uB=sO (YZ (szw [] ls),uB):=QcZ (d:=[]) a rfl;simp[KZ,QN,e]
theorem Qi0{p:c8}{j:Nat}{w:W}(h:((p.map Zm).reverse)[j]?=sO w):∃x,p[p.length-1-j]?=sO x/\w=Zm x/\j<p.length/\p.drop zF8=x::p.drop zR7:=by
 have a:=cG h;simp at a;rw[Fw (cD a),Nz,Nx]at h;show l8 x b h;refine⟨x,b,rfl,a,?_⟩;obtain⟨c,e⟩:=Nh.mp b;rw[show p.length-(j+1)=p.length-1-j by lia,EV c,e,show p.length-1-j+1=p.length-j by lia]
theorem Qi1{N:Nat}{bs ws:aD}{p:c8}{x:Pt}{h:MH}(o:tM)(A:p[0]?=sO x):JK pY h=sO (YZ (szw IO x.2),h):=by
 have f:=o.len
 have a:=JD (items:=zD4) (b:=ZS [2,3]) (body:=Kk) (λj u t=>∃n m,u=[bU p,cE,n,m]/\t=[.dic (kvs (sd sU))]) zD4 0 [bU p,cE,nO,nO] uB ⟨nO,nO,rfl,by simp[sd,kvs]⟩ (by
  show zl9 E u t n m
  obtain⟨y,v,rfl,D,i⟩:=Qi0 E;rw[NU]at *;have J:=N0 v;have H:Q0 [z6 y,uT] [.dic (kvs (sd sU))]=sO (YZ (szw (sd sU) y.2),[.dic (kvs (sd sU))]):=QcZ (λl C=>Qoz (o.ok _ y v l C)) rfl
  have c:y.1∉(sd sU).map (·.1):=by
   rw[QbO,List.mem_reverse];have d:((p.drop zF8).map (·.1)).Nodup:=by rw[FN];exact o.nd.sublist (Yaz _ _)
   rw[i,NA]at d;exact(ES.mp d).1
  have r:(kvs (sd sU)).length<sizeLine:=by
   have:(kvs (sd sU)).length=(p.drop zR7).length:=by
    have:=congrArg List.length (QbO sU);simpa[kvs]using this
   rw[this];exact Qnl (by simp;exact Nv (Np (Nk f aA) dZ))
  refine⟨[bU p,cE,n6 y,p0 y],rfl,[bU p,cE,n6 y,p0 y],[.dic (kvs (sd (p.drop zF8)))],j0,_,_,rfl,rfl⟩;rw[i];have G:=Qmx (z:=szw (sd sU) y.2) c
  simp[H,r,G,sd])
 obtain⟨B,t,e,n,m,rfl,rfl⟩:=a;rw[Et,Nz,NU,Nat.sub_self,OB]at e;refine QC (g:=[.dic (kvs (sd p))]) aF ?_ zO0;have ei:QpG (Qb aE Ql) [bU p,cE,nO,nO] uB=sO (zD4,nO,uB):=rfl
 have I:JX (QpG (Qb aE Ql)) nA Kk [bU p,cE,nO,nO] uB=sO (.nx [bU p,cE,n,m] [.dic (kvs (sd p))]):=by
  show sX e
 have F:atI (g9 p) 0=A9:=Uh A;have s:=QbQ (p:=p) (j:=0) o.nd A;simp[KM,QN,I,F,GQ,s]
noncomputable def Qjz(a:ME)(σ:MSt)(p:W×MH):bJ:=match p.1 with|dM=>a σ p.2|iN=>sO (iN,p.2)|_=>nO
@[simp]theorem QmQ{a:ME}{σ:MSt}{h:MH}{c:Bool}:Qjz a σ (.bl c,h)=if pX then fJ a else sO (iN,h):=by cases c<;>rfl
@[simp]theorem QsK{b a:ME}{σ:MSt}{h:MH}:QcR b a σ h=@ob _ _ (Qjz a σ) (b σ h):=aW
theorem QkB{z:Sz}{h:MH}:Je [YZ z] h=sO (.bl (decide (z.pl<=48)&&jd5),h):=by
 refine QC (g:=[]) zO0 ?_ rfl
 by_cases a:z.pl<=48
 ·by_cases b:z.bk<=500
  ·simp[Xc,QN,Qpw,Qpx,QpB,a,b]
  ·simp[Xc,QN,Qpw,Qpx,QpB,a,b]
 ·simp[Xc,QN,Qpw,Qpx,QpB,a]
theorem Gc{g:Bool}{x:Str}{l:aD}{h:MH}:wIn g cM (.tup (gW l)) h=sO (.bl (if g=true then ! zc3 else zc3),h):=by
 rw[Ql1 rfl X4 za3 (Ng VC aA)]
 have:inW cM (gW l)=zc3:=by
  induction l with
  |nil=>rfl
  |cons y l a=>
   show jh3
   show yM e y x
   show zS7
 rw[this]
theorem WT{ws:aH}{h:MH}(hw:∀w∈ws,w=dM):Qap [eZ] h=sO (dM,h):=by
 have e:ws=(List.replicate ws.length true).map W.bl:=by
  rw[List.map_replicate];exact List.eq_replicate_iff.mpr ⟨rfl,hw⟩
 rw[e];show((Qji ((List.replicate ws.length true).map W.bl)).map jt4)=_;rw[QfS,Dp];congr 3;simp
theorem Qhj{c:Nat}{h:MH}(h1:97<=c)(d:c<=122):QV [.str hG] h=sO (dM,h):=by
 refine QC (g:=[]) aF ?_ rfl;have e:XJ wLe wLe zI2 aE zI3 [sO (.str hG)] []=sO (.bl ((!decide (([c]:dD)<(("a":Str)).cps.toList))&&!decide ((("z":Str)).cps.toList<([c]:dD))),[]):=W6 rfl rfl rfl rfl rfl;have i:jw0:=fW
 have f:jt5:=fW
 have b:¬([c]:dD)<[97]:=λz=>by
  show jr2 h1
  ·exact zK9
 have a:¬([122]:dD)<[c]:=λz=>by
  show jr2 d
  ·exact zK9
 rw[i,f,qQ b,qQ a]at e;simp[Jh,QN,e]
theorem Qew{x:Str}{h:MH}(d:Nm x):Zi [aJ x] h=sO (dM,h):=by
 refine QC (g:=[]) aF ?_ rfl;have n:=d.lo;have e:=d.hi;have i:lT:=KY (Nv (Nk e aA))
 have j:=Vo (fin:=Jd) (mi:=QP aE) (cp:=[nO]) (me:=QD 1 QV (Qb aE Ql)) (σ:=[bA x]) (caps:=[]) (h:=[]) (items:=X7 x) (λ_=>dM) rfl cN (λw hw=>by
  unfold X7 at hw;show l0 c o;obtain⟨a,b⟩:=d.sm c o
  simp[Qhj a b]) jo2
 have t:Qap [.lst ((X7 x).map zO1)] []=sO (dM,[]):=WT λw hw=>by
  show zw7
 have s:wIn true cM (.tup (Qef keptN)) []=sO (dM,[]):=by
  unfold Qef;rw[Gc];simp[d.kp]
 have f:wIn true cM Ys []=sO (dM,[]):=s;show uF j;have r:eS<=x.length:=aU
 have p:p9<=8:=aU
 have v:(QB (XJ wLe wLe aM (mFn JT (Qb aE Ql)) (mC Zt))) [bA x] []=sO (true,[]):=by
  have u:mFn JT (Qb aE Ql) [bA x] []=sO (zR x,[]):=oO i
  have l:XJ wLe wLe aM (mFn JT (Qb aE Ql)) (mC Zt) [bA x] []=sO (.bl (decide (eS<=x.length)&&decide (p9<=8)),[]):=zI4 u;rw[oF r,oF p]at l;simp[l]
 simp[VJ,QN,j,t,f,v,JW]
theorem Qgt{es:aD}{e:W}{h:MH}(d:∀x∈es,Nm x)(f:es.length<=1000):Zc Jd (QP (mSl aE (ZW aM) Ji)) [nO] d9 KS (QD 1 Zi (Qb aE Ql)) [sO (.tup (e::n5))] h=sO (.lst (List.replicate es.length (.bl true)),h):=by
 have a:mSl aE (ZW aM) Ji [sO (.tup (e::n5))] h=sO (.tup (es.map .str),h):=by
  have:=Xs (e::es.map W.str) 1;show k7;simp[this]
 have ei:QP (mSl aE (ZW aM) Ji) [sO (.tup (e::n5))] h=sO (n5,nO,h):=by unfold QP;rw[a];rfl
 have g:=Vo (fin:=Jd) (mi:=QP (mSl aE (ZW aM) Ji)) (cp:=[nO]) (me:=QD 1 Zi (Qb aE Ql)) (σ:=[sO (.tup (e::n5))]) (caps:=[]) (h:=h) (items:=n5) (λ_=>dM) ei cN (λw hw=>by
  show l0 x c
  simp[Qew (d x c)]) (by simp;exact KY (Nv (Nk f aA)))
 rw[g,List.map_const',Nz];rfl
theorem Qkj{n:Nat}{h:MH}:Qap [.lst (List.replicate n (.bl true))] h=sO (dM,h):=WT λw hw=>(Yak.mp hw).2
theorem KL{x:Str}{es:aD}{i:Int}{h:MH}(b:Yh Qy x=sO i)(hi:kH=i)(c:∀y∈es,Nm y)(d:es.length<=1000):ZL [Qz CJ] h=sO (dM,h):=by
 refine QC (g:=[]) aF ?_ rfl;have n:Qz CJ=.tup (aJ x::n5):=rfl;have f:=Qgt (e:=aJ x) (h:=[]) c d;have m:Qhb true Qy cM []=sO (iN,[]):=zF9 b
 have l:QkP Qy cM []=sO (aL i,[]):=by unfold QkP;simp[b]
 have a:¬kH+1=0:=aU
 have j:wNe (.int (kH+1)) (.int (1+i)) []=sO (iN,[]):=by rw[<-hi,Int.add_comm];simp
 rw[n];simp[VO,QN,f,Qkj,m,l,j,a,JW]
theorem Qj1{bs ws la:aD}{l:Ln}{h:MH}(b:∀x∈bs,Nm x)(hw:∀x∈ws,Nm x)(f:∀x∈la,Nm x)(e:o0):ZL [Qz l] h=sO (dM,h):=by
 cases e with
 |plain e=>
  cases e with
  |pair a d c g=>exact KL (i:=4) bB rfl (by simp;exact⟨b _ a,hw _ d,b _ c,b _ g⟩) aF
  |first a c=>exact KL (i:=2) bB rfl zr7 aF
  |second a c=>exact KL (i:=2) bB rfl zr7 aF
  |same a c=>exact KL (i:=2) bB rfl zr7 aF
  |none a=>exact KL (i:=1) bB rfl (zL0 b) aF
  |tell a=>exact KL (i:=1) bB rfl (zL0 b) aF
 |«do» a=>exact KL (i:=1) bB rfl (zL0 f) aF
 |blk a=>
  rcases a with rfl|rfl|rfl|rfl
  all_goals exact KL (i:=0) bB rfl aF aF
 |back a=>exact KL (i:=1) bB rfl (by simp;exact hw _ a) aF
def Op(x:Str):Prop:=zt4
theorem QbW{ls:d4}{σ:MSt}{h:MH}{x:Str}{r:aD}{p:uJ}(E:n<=100000)(F:ls[n]?=sO iQ)(c:jk8=sO p)
  (H:∃(O:aD) (o:cH),σ=[mS,cE,o]/\h=[c7 O]/\jr3=sO Ba/\zI5/\O.length<=n) :
  ∃σ1,ZK 2 (Qz iQ) σ h=sO σ1/\∃g f,(J9 σ1 h=m8 g f\/J9 σ1 h=sO (.ct g f))/\∃(O:aD) (o:cH),g=[mS,cE,o]/\f=[c7 O]/\jk8=sO Ba/\zI5/\O.length<=n+1:=by
 obtain⟨O,o,rfl,rfl,G,m,b⟩:=H;refine⟨_,rfl,?_⟩;have D:ls.take (n+1)=ls.take n++[x::r]:=zI F
 have a:kst (cd x) Ba=sO p:=by
  rw[D,Qc4,X3,G]at c;have f:(kst (cd x) Ba).bind (YD [])=sO p:=c;cases e:kst (cd x) Ba with
  |none=>show bT e f
  |some u=>show bT e f;rfl
 have t:O.length<sizeLine:=Qnl (Nv (Nk (Ng b E) aA))
 show jb3 d B A w v
 ·show bT d a;refine⟨[mS,cE,sO (Qz ("either"::r))],[.lst ((O++[("either":Str)]).map .str)],j0,_,_,rfl,rfl,?_,Uz m fE,zL1⟩
  ·simp[t]
  ·rw[c,Xr,d]
 ·show bT d a;refine⟨[mS,cE,sO (Qz ("again"::r))],[.lst ((O++[("again":Str)]).map .str)],j0,_,_,rfl,rfl,?_,Uz m (.inr fE),zL1⟩
  ·simp[t]
  ·rw[c,Xr,d]
 ·show jk9
  show zX7
  ·show eF l a
   have i:Cm:=by
    rcases m y aF with z|z|z
    ·exact z
    ·rw[z,QcM]at l;cases l
    ·rw[z,Qm6]at l;cases l
   subst i;refine⟨[mS,cE,sO (Qz ("or"::r))],[.lst ((s++[("or":Str)]).map .str)],j0,_,_,rfl,rfl,?_,QeS m (.inr wM),by simp at b ⊢;exact Nv b⟩
   ·simp
   ·rw[c,Xr,d]
  ·cases a
 ·show jk9
  show zX7
  ·cases a
  ·show eF l a;have i:y≠"either":=λz=>l (by rw[z,QaR]);refine⟨[mS,cE,sO (Qz ("end"::r))],[c7 s],j0,_,_,rfl,rfl,c,λz C=>m z (Ee _ C),by simp at b;exact Nv (Np b dZ)⟩;simp[i]
 ·show bT d a;refine⟨[mS,cE,sO (Qz iQ)],[c7 O],j0,_,_,rfl,rfl,c,m,by exact Ng b dZ⟩;simp[B,A,w,v]
theorem Qio{ls:d4}{h:MH}(s:YD (ls.map cdL) []=sO [])(v:ls.length<=70000)(z:∀l∈ls,∃x r,xP):Vg [.tup n0] h=sO (dM,h):=by
 have a:=JD (items:=uC) (b:=ZK 2) (body:=J9) (λn i h=>∃(O:aD) (c:cH),i=[mS,cE,c]/\h=[c7 O]/\jr3=sO Ba/\zI5/\O.length<=n) n0 0 [mS,cE,nO] [bN] ⟨[],nO,rfl,rfl,rfl,aY,aY⟩ (λj w p i h H=>by
  rw[Nx]at p;show l8 l f p;rw[NU]at H ⊢;obtain⟨x,r,rfl⟩:=z l (N0 f);have t:=s;rw[<-DS (j+1) ls,Ed]at t;obtain⟨C,d⟩:=Qit t
  exact QbW (by have:=cG f;exact Nv (EG (Np this v) aA)) f d H)
 obtain⟨u,D,e,O,c,rfl,rfl,m,_,_⟩:=a;rw[Nz,NU,EM,s]at m
 have A:O=[]:=by
  have:=congrArg (λo=>o.map List.length) m;show k7;exact NT.mp this.symm
 subst A;refine QC (g:=[bN]) aF ?_ rfl;have ei:QP aE [mS,cE,nO] [bN]=sO (uC,nO,[bN]):=rfl
 have B:JX (QP aE) Aw J9 [mS,cE,nO] [bN]=sO (.nx [mS,cE,c] [bN]):=by
  show sX e
 simp[KF,QN,B]
theorem QmS{bs ws la:aD}{x:Pt}{h:MH}(p:∀x∈bs,Nm x)(hw:∀x∈ws,Nm x)(c:∀x∈la,Nm x)(o:uV)(j:∀l∈x.2,o0)(a:Sf)(i:iW<=70000):JR [Zm x] h=sO (dM,h):=by
 refine QC (g:=[]) (by simp[Zm]) ?_ rfl
 have m:=Vo (fin:=Jd) (mi:=QP (Qi wIx aE aM)) (cp:=[nO]) (me:=QD 1 ZL (Qb aE Ql)) (σ:=[A9]) (caps:=[]) (h:=[]) (items:=zj4) (λ_=>dM) jw1 cN (λw b=>by
  show p8 l d b
  simp[Qj1 p hw c (j l d)]) (by simp;exact KY (Nv (Nk i aA)))
 have s:Qap [.lst ((x.2.map Qz).map zO1)] []=sO (dM,[]):=WT λw hw=>by
  show zw7
 show uF m;have f:=Qio (h:=[]) a i λl d=>Qbq (j l d);have r:∀h,JT [Zm x] h=sO (sF,h):=λh=>zF7
 have ei:QcG [Zm x,.ty "tuple"] []=sO (dM,[]):=by unfold Zm;simp[JW]
 have e:QcG [z6 x,.ty "tuple"] []=sO (dM,[]):=by simp[JW]
 simp[Yt,QN,-El,m,s,f,r,ei,e,Qew o]
#print "-My"
namespace St
theorem Qod(ks:aD):∃ss:aD,Cg/\XV:=by
 refine⟨ks.mergeSort (λa b=>jh4),List.mergeSort_perm _ _,?_⟩;apply sortedS_of_pairwise
 have:=List.pairwise_mergeSort (le:=λa b:Str=>jh4) (λa b c e d=>by
  rw[decide_eq_true_eq]at *;exact List.le_trans e d) (λa b=>by
  rw[Dn,decide_eq_true_eq,decide_eq_true_eq]
  exact List.le_total _ _) ks
 exact this.imp λh=>le_of_lt.mpr (cD h)
theorem srt_spec(ks:aD):(srt ks).Perm ks/\sortedS (srt ks)=true:=by
 obtain⟨a,p,h⟩:=Qod ks;rw[srt_eq p h];show lL p h
#print "-St"
namespace My
open L2 Mi My3 My4
noncomputable def als(p:c8):d4:=p.flatMap (·.2)
theorem QmU{N:Nat}:∀{p:c8},(∀x∈p,iW<=N)->pA<=p.length*N:=by
 intro p
 induction p with
 |nil=>
  intro _;simp[als]
 |cons x p a=>
  intro h;have d:=h x NG;have c:=a (iV y b h);simp only[als,Iw,Nw,N6]at c ⊢;rw[Nat.add_mul];lia
theorem Qdf{p:c8}{h:MH}(s:pA<=100000):QH pY h=sO (yE,h):=by
 have a:=JD (items:=lH p) (b:=ZK 2) (body:=Ko) (λj f h=>∃c,f=[bU p,cE,c]/\h=[.lst ((als oK).map Qz)]) (g9 p) 0 [bU p,cE,nO] [bN] ⟨nO,rfl,by simp[als]⟩ (by
  show zu9 l f c;show l8 x n l;rw[NU]at *
  have i:als M4=als oK++x.2:=by
   rw[Ez,n];simp[als]
  have d:(als oK).length+iW<=sizeLine:=by
   have o:als p=als M4++als (p.drop (j+1)):=by simp only[als];rw[<-IW,DS]
   have:=HD o;rw[i]at this;simp only[Nw]at this;exact KY aQ
  refine⟨_,rfl,[bU p,cE,A9],[.lst ((als M4).map Qz)],j0,_,rfl,rfl⟩;rw[i]
  simp[d])
 show zG0 m t e c a;have ei:QP aE [bU p,cE,nO] [bN]=sO (lH p,nO,[bN]):=rfl
 have r:JX (QP aE) Aw Ko [bU p,cE,nO] [bN]=sO (.nx [bU p,cE,c] [yE]):=by
  show sX e
 refine WQ (j:=0) (g:=[yE]) aF ?_ rfl aF;simp[KN,QN,r]
noncomputable def bxs:Ln->aD
 |x::r=>if x="pair"then[r.getD 0 "",r.getD 2 "",r.getD 3 ""]else if x∈RB then r else[]
 |[]=>[]
theorem QfL{bs ws la:aD}{l:Ln}{h:MH}(d:o0):jc3/\(∀y∈bxs l,AE)/\(bxs l).length<=3:=by
 have c:∀x:Str,∀h,wIn false cM (.tup [.str "first",.str "second",.str "same",zh1,.str "tell"]) h=sO (.bl (decide (x∈RB)),h):=λx h=>Gc (g:=false) (x:=x) (l:=["first","second","same","none","tell"]) (h:=h)
 have j:∀(x:Str) (r:aD) (h:MH),wSl (.tup (aJ x::rD)) sD nO h=sO (.tup (gW r),h):=λx r h=>by
  have:=Xs (xG::zQ) 1;show k7;simp[this]
 have one:∀(x:Str) (r:aD),x≠"pair"->x∈RB->Jk [Qz iQ] h=sO (c7 r,h):=λx r f e=>by
  refine QC (g:=[]) aF ?_ aF;have i:Qz iQ=.tup (aJ x::rD):=rfl;rw[i];have o:Qjf [.tup (gW r)] []=sO (c7 r,[]):=rfl;simp[V1,QN,f,c,e,j,o,-NC]
 have non:∀(x:Str) (r:aD),x≠"pair"->x∉RB->Jk [Qz iQ] h=sO (bN,h):=λx r f e=>by
  refine QC (g:=[]) aF ?_ aF;have i:Qz iQ=.tup (aJ x::rD):=rfl;rw[i];simp[V1,QN,f,c,e,-NC]
 cases d with
 | plain d=>
  cases d with
  |pair a n b m=>
   refine⟨?_,by simp[bxs];exact⟨a,b,m⟩,oH⟩;refine QC (g:=[]) aF ?_ (by simp[bxs]);simp[V1,QN,Qz,bxs]
  |first a b=>exact⟨one _ _ aA aA,zu2,oH⟩
  |second a b=>exact⟨one _ _ aA aA,zu2,oH⟩
  |same a b=>exact⟨one _ _ aA aA,zu2,oH⟩
  |none a=>exact⟨one _ _ aA aA,by simp[bxs];exact a,oH⟩
  |tell a=>exact⟨one _ _ aA aA,by simp[bxs];exact a,oH⟩
 |«do» a=>exact⟨non _ _ aA aA,oH,oH⟩
 |blk a=>
  rcases a with rfl|rfl|rfl|rfl
  all_goals exact⟨non _ _ aA aA,oH,oH⟩
 |back a=>exact⟨non _ _ aA aA,oH,oH⟩
theorem GF{a:W}{ss:aD}{h:MH}(b:lsW h a=sO zD)(h1:ss.length<4000)(c:(St.uniq ss).length<64):Kv [a] h=sO (oG,h++je8):=by
 unfold Kv;simp only[b,Ni,QbT];rw[if_pos (iI h1 c)]
theorem QfH:∀(a b:aD),a.Nodup->(∀y∈a,y∈b)->a.length<=b.length:=by
 intro a
 induction a with
 |nil=>
  intro b _ _;exact Eg _
 |cons k r f=>
  intro b c h;have e:=h k NG;rw[ES]at c;have:=f (b.erase k) c.2 λy d=>zp3 c h y;rw[F3 e]at this;have:=IB e;rw[N6];lia
theorem Wa{l bs:aD}(h:∀y∈l,AE):(St.uniq l).length<=bs.length:=QfH _ bs (St.uniq_nd _ l rfl) λy a=>h y ((St.uniq_mem _ _ rfl y).mp a)
theorem Qby(l:aD):(St.srt l).length=l.length:=(St.srt_spec l).1.length_eq
theorem QoD{f:Ln->aD}:∀{ls:d4},(∀l∈ls,(f l).length<=3)->(ls.flatMap f).length<=3*ls.length:=by
 intro ls
 induction ls with
 |nil=>
  intro _;simp
 |cons l ls a=>
  intro h;have d:=h l NG;have c:=a (iV y b h);simp only[Iw,Nw,N6]at c ⊢;lia
section
variable{N:Nat}{bs ws:aD}{p:c8}
theorem QaB(d:tM):∀l∈als p,∃la,o0:=λl a=>by
 obtain⟨x,b,a⟩:=LM.mp a;show A5 i c b;exact⟨_,d.ok i x c l a⟩
theorem Ql6(o:tM)(E:pA<=1000)(r:zR8):∃ss:aD,ss.length<=bs.length/\(∀y∈HE,y∈ss)/\∀h,VP pY h=sO (.lst zD,h):=by
 have B:∀j,(((als p).take j).flatMap bxs).length<=3*pA:=λj=>Ng (QoD λl c=>by
  obtain⟨v,i⟩:=QaB o l (ON c)
  exact(QfL (h:=[]) i).2.2) (by rw[EL];lia)
 have d:=JD (items:=zO2) (b:=ZK 2) (body:=KJ) (λj u h=>∃m,u=[bU p,cE,m]/\h=[.lst ((((als p).take j).flatMap bxs).map .str)]) ((als p).map Qz) 0 [bU p,cE,nO] [bN] ⟨nO,rfl,aY⟩ (by
  show zu9 A u m;show l8 l c A;rw[NU];have z:((als p).take (j+1)).flatMap bxs=((als p).take j).flatMap bxs++bxs l:=by rw[Ez,c,IW];simp
  obtain⟨v,i⟩:=QaB o l (N0 c);have H:∀h,jc3:=λh=>(QfL i).1
  have n:((((als p).take j).flatMap bxs).map W.str).length+((bxs l).map W.str).length<=sizeLine:=by
   have F:=B (j+1);rw[z,Nw]at F;rw[Nz,Nz];exact KY aQ
  refine⟨_,rfl,[bU p,cE,sO pV],[.lst ((((als p).take (j+1)).flatMap bxs).map .str)],j0,_,rfl,rfl⟩;rw[z,Ed];generalize(bxs l).map W.str=Y at *;generalize(((als p).take j).flatMap bxs).map W.str=Z at *
  simp[H,n])
 show zG0 C L e m d
 have D:∀y∈HE,AE:=λy f=>by
  obtain⟨l,c,f⟩:=LM.mp f;obtain⟨v,i⟩:=QaB o l c;exact(QfL (h:=[]) i).2.1 y f
 have x:=Wa D;have s:=B pA;rw[EM]at s;refine⟨St.srt jj0,by rw[Qby];exact x,λy f=>(St.srt_spec _).1.mem_iff.mpr ((St.uniq_mem _ _ rfl y).mpr f),fX h⟩;have t:∀h,QH pY h=sO (yE,h):=λh=>Qdf (Nv (Nk E aA))
 have ei:QP (QD 1 QH (Qb aE Ql)) [bU p,cE,nO] [bN]=sO (zO2,nO,[bN]):=by
  have I:QD 1 QH (Qb aE Ql) [bU p,cE,nO] [bN]=sO (yE,[bN]):=oO t
  unfold QP;rw[I];rfl
 have J:JX (QP (QD 1 QH (Qb aE Ql))) Aw KJ [bU p,cE,nO] [bN]=sO (.nx [bU p,cE,m] [zq5]):=by
  show sX e
 have G:=GF (a:=uT) (ss:=HE) (h:=[zq5]) rfl aQ (Nk (Ng x r) aA);refine WQ (j:=1) (g:=[zq5,.lst ((St.srt jj0).map .str)]) aF ?_ rfl aF;simp[K2,QN,J,G]
theorem Y4{kd:Str}{k:Nat}{Wd:aD}{ls:d4}{mi:MI}{σ:MSt}{h:MH}(hi:mi σ h=sO (uC,nO,h))(J:∃o,Qd3 [nO] σ=[o])(G:ls.length<=100000)
  (g:∀l∈ls,∃x r,xP/\(x=kd->∃w,TC=bA w/\xS)) :
  ∃ss:aD,(∀w∈ss,xS)/\ss.length<=ls.length/\(∀r w,(kd::r:Ln)∈ls->TC=bA w->w∈ss)/\Zc Jd mi [nO] d9 (QB (Qi wEq (Qi wIx aE bC) (mC (.str kd)))) (Qi wIx aE jo3) σ h=sO (.lst zD,h):=by
 let n:rX:=λw=>match w with|.tup (aJ x::_)=>x==kd|_=>false
 let s:W->W:=λw=>match w with|fA=>ws.getD (k+1) .non|w=>w
 have L:=UC (fin:=Jd) (mi:=mi) (cp:=[nO]) (mt:=QB (Qi wEq (Qi wIx aE bC) (mC (.str kd)))) (me:=Qi wIx aE jo3) (σ:=σ) (caps:=[]) (h:=h) (items:=uC) s n hi J (λw hw=>by
   show l0 l f;obtain⟨x,r,rfl,_⟩:=g l f;show _=sO ((x==kd),h);simp) (λw hw I=>by
   show l0 l f;obtain⟨x,r,rfl,A⟩:=g l f;have F:x=kd:=by have:(x==kd)=true:=I;show iA
   obtain⟨w,d,_⟩:=A F;have M:Qz iQ=.tup (aJ x::rD):=rfl;have i:atI (xG::zQ) ((k+1:Nat):Int)=bA w:=by rw[Jx];show lJ d
   have B:s (Qz iQ)=aJ w:=by
    show(xG::zQ).getD (k+1) .non=_;rw[Ec];have:(xG::zQ)[k+1]?=bA w:=cL d
    show mD
   rw[B,M];push_cast at i ⊢
   simp[i]) (by simp;exact KY (Nv (Nk G aA)))
 have key:∀ls:d4,(∀l∈ls,∃x r,xP/\(x=kd->∃w,TC=bA w/\xS))->∃ss:aD,(∀w∈ss,xS)/\ss.length<=ls.length/\(∀r w,(kd::r:Ln)∈ls->TC=bA w->w∈ss)/\((ls.map Qz).filter n).map s=ss.map .str:=by
  intro ls
  induction ls with
  |nil=>intro _;exact⟨[],aY,aY,aY,rfl⟩
  | cons l ls D=>
   intro g;obtain⟨ss,a,b,t,c⟩:=D (iV y E g);obtain⟨x,r,rfl,A⟩:=g l NG
   by_cases z:x=kd
   ·obtain⟨w,d,u⟩:=A z;refine⟨w::ss,by simp;show lL u a,zL1,fC m j v e,?_⟩
    ·show C7 v q
     ·have H:m=r:=(YaT q).2;rw[H,d]at e;have:w=j:=by injection e with q;injection q
      rw[this];exact NG
     ·exact Nt _ (t m j q e)
    have i:n (Qz iQ)=true:=by show(x==kd)=true;show lJ z
    have B:s (Qz iQ)=aJ w:=by
     show(xG::zQ).getD (k+1) .non=_;rw[Ec];have:(xG::zQ)[k+1]?=bA w:=cL d
     show mD
    rw[NA,LW i,NA,B,c,NA]
   ·have i:¬n (Qz iQ)=true:=by show¬(x==kd)=true;show lJ z
    exact⟨ss,a,by simp;exact Ng b dZ,λm j v e=>(NC.mp v).elim (λq=>absurd (YaT q).1.symm z) λq=>t m j q e,by rw[NA,LY i,c]⟩
 obtain⟨ss,a,b,t,c⟩:=key ls g;exact⟨ss,a,b,t,by rw[L,c];rfl⟩
#print "-"
section
variable{N:Nat}{bs ws:aD}{p:c8}
theorem Qc8{la:aD}{l:Ln}(h:o0):∃x r,xP/\(x="pair"->∃w,(r.map W.str)[1]?=bA w/\w∈ws):=by
 cases h with
 |plain h=>
  cases h with
  |pair c hw b a=>exact⟨_,_,rfl,λ_=>⟨_,rfl,hw⟩⟩
  |_=>exact⟨_,_,rfl,λz=>absurd z aA⟩
 |«do» h=>exact⟨_,_,rfl,λz=>absurd z aA⟩
 |blk h=>rcases h with rfl|rfl|rfl|rfl<;>exact⟨_,_,rfl,λz=>absurd z aA⟩
 |back h=>exact⟨_,_,rfl,λz=>absurd z aA⟩
theorem Qhp{la:aD}{l:Ln}(h:o0):∃x r,xP/\(x="back"->∃w,(r.map W.str)[0]?=bA w/\w∈ws):=by
 cases h with
 |plain h=>cases h<;>exact⟨_,_,rfl,λz=>absurd z aA⟩
 |«do» h=>exact⟨_,_,rfl,λz=>absurd z aA⟩
 |blk h=>rcases h with rfl|rfl|rfl|rfl<;>exact⟨_,_,rfl,λz=>absurd z aA⟩
 |back h=>exact⟨_,_,rfl,λ_=>tT⟩
theorem QkA{la:aD}{l:Ln}(h:o0):∃x r,xP/\(x="do"->∃w,r=[w]/\w∈la):=by
 cases h with
 |plain h=>cases h<;>exact⟨_,_,rfl,λz=>absurd z aA⟩
 |«do» h=>exact⟨_,_,rfl,λ_=>tT⟩
 |blk h=>rcases h with rfl|rfl|rfl|rfl<;>exact⟨_,_,rfl,λz=>absurd z aA⟩
 |back h=>exact⟨_,_,rfl,λz=>absurd z aA⟩
theorem QaK{σ:MSt}(a:σ[0]?=sO (sO (Zb p)))(c:pA<=1000)(h:MH):QP (QD 1 QH (Qb aE Ql)) σ h=sO (zO2,nO,h):=by
 have b:∀h,QH pY h=sO (yE,h):=λh=>Qdf (Nv (Nk c aA));have d:QD 1 QH (Qb aE Ql) σ h=sO (yE,h):=by simp[Qe,a,b]
 unfold QP;rw[d];rfl
theorem QlZ(u:tM)(f:pA<=1000)(d:ws.length<=60):∃ss:aD,(∀w∈ss,w∈ws)/\ss.length<=ws.length/\(∀a w b c,yF∈als p->w∈ss)/\∀h,VL pY h=sO (.lst zD,h):=by
 obtain⟨ss,i,o,n,e⟩:=Y4 (kd:="pair") (k:=1) (Wd:=ws) (ls:=als p) (σ:=[bU p]) (h:=[]) (QaK rfl f []) cN (Nv (Nk f aA)) λl t=>by
  obtain⟨A,r⟩:=QaB u l t;exact Qc8 r
 have m:=Wa i;refine⟨St.srt zR3,zV8 i,by rw[Qby];exact m,λa w b c s=>(St.srt_spec _).1.mem_iff.mpr ((St.uniq_mem _ _ rfl w).mpr (n _ _ s rfl)),fX h⟩;have v:=GF (a:=.lst zD) (ss:=ss) (h:=[]) rfl (Nk (Ng o f) aA) (Nk (Ng m d) aA);refine WQ (j:=0) (g:=je8) aF ?_ rfl aF;have x:Zc Jd (QP (QD 1 QH (Qb aE Ql))) [nO] d9 (QB (Qi wEq (Qi wIx aE bC) mU)) (Qi wIx aE bY) [bU p] []=sO (.lst zD,[]):=e;simp[K6,QN,x,v]
theorem Qn4{x:Str}{l:aD}{h:MH}:wIn false cM (fL l) h=sO (.bl (decide (x∈l)),h):=by
 rw[QqW rfl X4 za3 (Ng VC aA)]
 have:inW cM (gW l)=zc3:=by
  induction l with
  |nil=>rfl
  |cons y l a=>
   show jh3
   show yM e y x
   show zS7
 show mD
theorem Qdz(c:p.length<=100)(r:MSt)(h:MH):Zc Jd (QP aE) [nO] d9 KS (Qi wIx aE bC) (bU p::r) h=sO (.lst ((p.map (·.1)).map .str),h):=by
 have d:=Vo (fin:=Jd) (mi:=QP aE) (cp:=[nO]) (me:=Qi wIx aE bC) (σ:=bU p::r) (caps:=[]) (h:=h) (items:=lH p) (λw=>match w with|.tup (a::_)=>a|w=>w) rfl cN (λw hw=>by
  show HJ x
  simp[Zm]) (by simp;exact KY (Nv (Nk c aA)))
 rw[d];simp[Zm,Jd,Yar]
theorem QiI{P:c8}{j:Nat}{w:W}(h:(Jt (g9 P))[j]?=sO w):∃x,P[j]?=sO x/\w=.tup [aL j,Zm x]:=by
 unfold Jt at h;rw[Nx,FG,Nx]at h;cases a:P[j]? with
 |none=>show bT a h
 |some x=>
  rw[a]at h;refine⟨x,rfl,?_⟩;simp at h;rw[<-h]
theorem QeC{l:aD}(h:l.Nodup):St.uniq l=l:=by
 induction l using XW with
 |nil=>rfl
 |snoc L x a=>
  rw[Ls]at h;rw[St.uniq_snoc,a h.1,if_neg λz=>h.2.2 x z x aF rfl]
theorem Qd6{i:Nat}{x:Pt}{f e d:cH}(c:∀l∈x.2,∃y r,l=y::r/\(y="do"->∃w,r=[w]/\w∈(p.map (·.1)).drop (i+1)))(hN:iW<=100000)(u:p[i]?=sO x) :
  ∃σ1,ZS [2,3] (.tup [.int eB,Zm x]) [bU p,sO (Jy (p.map (·.1))),f,e,d] []=sO σ1/\∃a m,(ZF σ1 []=m8 a m\/ZF σ1 []=sO (.ct a m))/\∃f e d,a=[bU p,sO (Jy (p.map (·.1))),f,e,d]/\m=[]:=by
 have j:∀h,wSl (Jy (p.map (·.1))) (sO (eB+1)) nO h=sO (Jy ((p.map (·.1)).drop (i+1)),h):=λh=>Qnh rfl;have F:=N0 u
 let n:rX:=λw=>match w with|.tup (aJ x::_)=>x=="do"|_=>false
 have o:=UC (fin:=Jd) (mi:=QP (Qi wIx cB aM)) (cp:=[nO,sO 4]) (mt:=QB (Qi wEq (Qi wIx aE bC) qJ)) (me:=Qi pD (Qi wIx aE aM) aK) (σ:=[bU p,sO (Jy (p.map (·.1))),aS i,A9,sO (Jy ((p.map (·.1)).drop (i+1)))]) (caps:=[sO (Jy ((p.map (·.1)).drop (i+1)))]) (h:=[]) (items:=zj4) (λ_=>dM) n jw1 cN (λw hw=>by
   show l0 l b;obtain⟨y,r,rfl,_⟩:=c l b;show _=sO ((y=="do"),[]);simp) (λw hw v=>by
   show l0 l b;obtain⟨y,r,rfl,z⟩:=c l b;have t:y="do":=by have:(y==zj3)=true:=v;show iA
   obtain⟨w,rfl,g⟩:=z t;have:=Qn4 (x:=w) (l:=(p.map (·.1)).drop (i+1)) (h:=[]);rw[oF g]at this;have B:wIn false (lM w) (Jy ((p.map (·.1)).drop (i+1))) []=sO (dM,[]):=this
   simp[B]) (by simp;exact KY (Nv (Nk hN aA)))
 have A:Qap [.lst (((x.2.map Qz).filter n).map zO1)] []=sO (dM,[]):=WT λw hw=>by
  show zw7
 show uF o;refine⟨[bU p,sO (Jy (p.map (·.1))),aS i,A9,d],rfl,[bU p,sO (Jy (p.map (·.1))),aS i,A9,sO (Jy ((p.map (·.1)).drop (i+1)))],[],j0,_,_,_,rfl,rfl⟩;simp[j,o,A,-El]
theorem Qee{h:MH}(m:tM)(hN:N<=100000):Zh pY h=sO (dM,h):=by
 have a:=m.len
 have c:=JD (items:=Jt (g9 p)) (b:=ZS [2,3]) (body:=ZF) (λj r h=>∃i f d,r=[bU p,sO (Jy (p.map (·.1))),i,f,d]/\h=[]) (Jt (g9 p)) 0 [bU p,sO (Jy (p.map (·.1))),nO,nO,nO] [] ⟨nO,nO,nO,rfl,rfl⟩ (by
  rintro j w v r h ⟨i,f,d,rfl,rfl⟩
  obtain⟨x,n,rfl⟩:=QiI v
  exact Qd6 (λl u=>QkA (m.ok _ _ n l u)) (Ng (m.sz x (N0 n)) hN) n)
 obtain⟨s,A,e,i,f,d,rfl,rfl⟩:=c;have ei:Qda (Qb aE Ql) [bU p,sO (Jy (p.map (·.1))),nO,nO,nO] []=sO (Jt (g9 p),nO,[]):=rfl
 have z:JX (Qda (Qb aE Ql)) nA ZF [bU p,sO (Jy (p.map (·.1))),nO,nO,nO] []=sO (.nx [bU p,sO (Jy (p.map (·.1))),i,f,d] []):=by
  show sX e
 have en:=Qdz (p:=p) (Nv (Nk a aA)) [nO,nO,nO,nO] [];have t:=QeC m.nd
 have y:Qam [Jy (p.map (·.1))] []=sO (zR p,[]):=by
  unfold Qam Jy;simp only[lsW,Ni,QbT];rw[if_pos (by simp;exact Nk a aA),t];simp
 refine QC (g:=[]) aF ?_ rfl;have o:Zc Jd (QP aE) [nO] d9 KS (Qi wIx aE bC) [bU p,nO,nO,nO,nO] []=sO (Jy (p.map (·.1)),[]):=en;simp[Vf,QN,o,y,z]
theorem QlB(P:zm0)(f:W->W):∀(rest a:aH) (d:MSt),P d->(∀w∈rest,∀d,P d->∃c,b w d h=sO c/\P c/\me c h=xD w)->SS<=sizeLine->XQ fin items nO b KS me rest a d h=fin (a++rest.map f) h:=by
 intro rest
 induction rest with
 |nil=>
  intro a d _ _ _;unfold XQ;rw[vU];simp
 |cons w rest i=>
  intro a d l e n;have m:jh7:=cL n
  obtain⟨c,r,g,o⟩:=e w NG d l;unfold XQ;rw[vU,r,Ni];show(sO (true,h)).bind _=_;rw[Ni];simp only[o,Ni];rw[if_pos aQ,i (a++[f w]) c g (mZ x j e) BE];simp
theorem Qn3(P:zm0)(f:W->W)(hi:zw6)(g:P (Qd3 cp σ))(d:∀w∈items,∀c,P c->∃a,b w c h=sO a/\P a/\me a h=xD w)(e:zx1):Zc fin mi cp b KS me σ h=fin (items.map f) h:=by
 unfold Zc;rw[hi,Ni];rw[QlB P f items [] _ g d (cD e)];simp
noncomputable def smB(z:Sz):Bool:=decide (z.pl<=48)&&jd5
theorem Gq{l:g8}{f:a->Bool}{h:MH}:Qap [.lst jw2] h=sO (.bl (l.all f),h):=by
 show((Qji jw2).map jt4)=_;rw[QfS,Dp];congr 3;simp
noncomputable def unS(v:W):Str:=match v with|aJ s=>s|_=>""
noncomputable def unL(l:W):Ln:=match l with|fA=>ws.map unS|_=>[]
noncomputable def bOf(f:Pt->Bool)(w:W):W:=match w with|.tup [aJ x,mL a]=>.bl (f (x,a.map unL))|_=>iN
theorem Qfu{f:Pt->Bool}{x:Pt}:bOf f (Zm x)=.bl (f x):=by
 show fV a b x
 have e:(b.map Qz).map unL=b:=by
  rw[El]
  conv=>rhs;rw[<-List.map_id b]
  apply DK;intro l _;show(l.map W.str).map unS=l;rw[El]
  conv=>rhs;rw[<-List.map_id l]
  rfl
 show W.bl (f (a,(b.map Qz).map unL))=_;rw[e]
theorem QmZ{x:Pt}(o:tM)(hx:p[0]?=sO x)(u:pA<=1000)(R:zR8)(t:ws.length<=15) :
  ∃M J:Nat,M<=bs.length/\J<=ws.length/\(∀L:aD,L.Nodup->(∀y∈L,y∈HE)->L.length<=M)/\(∀L:aD,zT8 J) /\
   ∀h,ZO pY h=zT3 M J:=by
 obtain⟨B,hB,Y,C⟩:=Ql6 o u R;obtain⟨Wo,v,U,T,G⟩:=QlZ o u (Nv (Nk t aA))
 obtain⟨d,s1,s2,s3,eb⟩:=Y4 (kd:="back") (k:=0) (Wd:=ws) (ls:=als p) (σ:=[bU p,nO,nO]) (h:=[]) (QaK rfl u []) cN (Nv (Nk u aA)) λl Q=>by
  obtain⟨la,ho⟩:=QaB o l Q;exact Qhp ho
 have m:Zc Jd (QP (QD 1 QH (Qb aE Ql))) [nO] d9 (QB (Qi wEq (Qi wIx aE bC) yJ)) (Qi wIx aE aM) [bU p,nO,nO] []=sO (c7 d,[]):=eb;have u1:=Wa v;have u2:=Wa s1;have u3:AX<=ws.length:=Wa λy n=>(NQ.mp n).elim (v y) (s1 y)
 have E:Qcx [.lst (Wo.map .str),c7 d] []=sO (.int AX,[]):=by
  unfold Qcx;simp only[lsW,Ni,QbT];rw[if_pos ⟨by exact Nk (Ng U t) aA,by exact Nk (Ng s2 u) aA,aU⟩]
 refine⟨B.length,AX,hB,u3,λL X P=>QfH L B X λy n=>Y y (P y n),λL X P=>QfH L _ X λy n=>(St.uniq_mem _ _ rfl y).mpr (NQ.mpr ((P y n).elim (λ⟨a,b,c,q⟩=>.inl (T _ _ _ _ q)) λq=>.inr (s3 _ _ q rfl))),fX h⟩;have F:∀h,JK pY h=sO (YZ (szw IO x.2),h):=λh=>Qi1 o hx;generalize hS:szw IO x.2=S at F;have es:∀z h,Je [YZ z] h=sO (.bl (smB z),h):=λz h=>QkB
 have Z:=Qn3 (fin:=Jd) (mi:=QP aE) (cp:=rZ) (b:=ZS [0,1]) (me:=QD 1 Je (Qb (QD 1 JF (Qb aK Ql)) Ql)) (σ:=[bU p,sO (fL d),sO (YZ S)]) (h:=[]) (items:=lH p) (λI=>I.length=2) (bOf λy=>smB zJ) rfl rfl (λw hw I O=>by
  show l0 y n;obtain⟨i,hi⟩:=N8.mp n;have eo:∀h,JF [z6 y] h=sO (YZ zJ,h):=λh=>QkC λl Q=>Qoz (o.ok i y hi l Q);rw[Qfu]
  match I,O with
  |[a,b],_=>exact⟨[n6 y,p0 y],rfl,rfl,by simp[eo,es]⟩) (by simp;have:=o.len;exact KY (Nv (Nk this aA)))
 have em:(p.map Zm).map (bOf λy=>smB zJ)=p.map λy=>W.bl (smB zJ):=by rw[El];exact DK λy _=>Qfu
 show uF Z;rw[em]at Z;have A:Qap [.lst (p.map λy=>W.bl (smB zJ))] []=sO (.bl (p.all λy=>smB zJ),[]):=Gq;refine QC (g:=[]) aF ?_ rfl
 by_cases s:(5:Int)<B.length
 ·have j:¬B.length<=5:=aU
  simp[ZE,QN,C,s,j]
 have j:B.length<=5:=aU
 by_cases D:(5:Int)<AX
 ·have f:¬AX<=5:=aU
  simp[ZE,QN,C,m,G,E,s,D,f]
 have f:AX<=5:=aU
 by_cases r:(24:Int)<S.wy
 ·have e:¬S.wy<=24:=by exact II.mpr r
  simp[ZE,QN,C,m,G,E,s,D,F,QpL,r,e]
 have e:S.wy<=24:=by exact Int.not_lt.mp r
 have H:=es S [];cases hs:smB S with
 |false=>rw[hs]at H;simp[ZE,QN,C,m,G,E,s,D,F,QpL,r,H,j,f,e]
 |true=>rw[hs]at H;simp[ZE,QN,C,m,G,E,s,D,F,QpL,r,H,Z,A,j,f,e,-El,-NV]
#print "-"
section
variable{N:Nat}{bs ws:aD}{p:c8}
theorem QkY{us:aH}{h:MH}:QcG [.tup us,.ty "tuple"] h=sO (dM,h):=by simp[JW]
theorem Qmb{us:aH}(e:us.length<=1000):QB (XJ wLe wLe aM (mFn JT (Qb aE Ql)) (mC Jg)) zb5 []=sO (decide (1<=us.length)&&decide (us.length<=5),[]):=by
 have d:mFn JT (Qb aE Ql) zb5 []=sO (.int us.length,[]):=aY
 have a:XJ wLe wLe aM (mFn JT (Qb aE Ql)) (mC Jg) zb5 []=sO (.bl (decide (eS<=us.length)&&jr4),[]):=zI4 d;have c:decide (eS<=us.length)=decide (1<=us.length):=T8
 have b:jr4=decide (us.length<=5):=T8
 rw[c,b]at a;simp[a]
theorem Ql2{us:aH}{f:rX}{b:Bool}{h:MH}(n:Cf)(h1:1<=us.length)(j:us.length<=5)(o:∀w∈us,∀h,JR [w] h=sO (.bl (f w),h))(s:us.all f=true->∃r k,(∀h,Zh [.tup us] h=Pz r)/\(r=true->∀h,ZO [.tup us] h=Pz k)/\b=(r&&k))(i:us.all f=false->b=false):Q2 [.tup us] h=Pz b:=by
 have e:=Vo (fin:=Jd) (mi:=QP aE) (cp:=[nO]) (me:=QD 1 JR (Qb aE Ql)) (σ:=zb5) (caps:=[]) (h:=[]) (items:=us) (λw=>.bl (f w)) rfl cN (λw hw=>by simp[o w hw]) (KY (Nv (Nk j aA)));show uF e;have a:Qap [.lst (us.map λw=>W.bl (f w))] []=sO (.bl (us.all f),[]):=Gq;have d:=Qmb (us:=us) (Nv (Nk j aA));rw[oF h1,oF j]at d;have ei:=QkY (us:=us) (h:=[]);refine QC (g:=[]) (by unfold Vj pur;simp[n,Vj]) ?_ rfl;cases c:us.all f with
 |false=>
  rw[i c];rw[c]at a;simp[Va,QN,ei,d,e,a,-NV,-DV]
 |true=>
  obtain⟨r,k,l,t,rfl⟩:=s c;rw[c]at a;cases r with
  |false=>simp[Va,QN,ei,d,e,a,l,-NV,-DV]
  |true=>simp[Va,QN,ei,d,e,a,l,t rfl,-NV,-DV]
theorem Qqz:Vj (g9 p)=true:=aY
theorem Qdq(c:tM)(hN:N<=70000)(j:∀x∈bs,Nm x)(hw:∀x∈ws,Nm x)(d:∀x∈p,uV):∀w∈lH p,∀h,JR [w] h=sO (.bl ((λ_=>true) w),h):=λw b h=>by
 show p8 y a b;show A5 i g a
 exact QmS j hw (la:=(p.map (·.1)).drop (i+1)) (λz e=>by
   obtain⟨q,f,rfl⟩:=NI.mp (FH e)
   exact d q f) (d y a) (c.ok i y g) (c.bal y a) (Ng (c.sz y a) hN)
theorem QqE{x:Pt}(i:tM)(hN:N<=70000)(n:p[0]?=sO x)(s:pA<=1000)(m:zR8)(j:ws.length<=15)(r:∀x∈bs,Nm x)(hw:∀x∈ws,Nm x)(o:∀x∈p,uV) :
  ∃e d:Nat,e<=bs.length/\d<=ws.length/\(∀L:aD,L.Nodup->(∀y∈L,y∈HE)->L.length<=e)/\(∀L:aD,zT8 d) /\
   ∀h,Q2 pY h=zT3 e d:=by
 obtain⟨e,d,A,w,v,u,t⟩:=QmZ i n s m j;refine⟨e,d,A,w,v,u,fX h⟩;have g:=i.len;have l:=Df.mpr i.ne;exact Ql2 (us:=lH p) (f:=zk8) Qqz (by rw[Nz];exact l) (by rw[Nz];exact g) (Qdq i hN r hw o) (λ_=>⟨true,_,λh=>Qee i (Nv (Nk hN aA)),λ_ h=>t h,aY⟩) (λz=>gG z)
#print "-"
theorem Qov{c:Nat}{h:MH}:QV [.str hG] h=sO (.bl y0,h):=by
 refine QC (g:=[]) aF ?_ rfl;have e:XJ wLe wLe zI2 aE zI3 [sO (.str hG)] []=sO (.bl ((!decide (([c]:dD)<(("a":Str)).cps.toList))&&!decide ((("z":Str)).cps.toList<([c]:dD))),[]):=W6 rfl rfl rfl rfl rfl;have f:jw0:=fW
 have d:jt5:=fW
 have one:∀a b:Nat,(!decide (([a]:dD)<[b]))=decide (b<=a):=λa b=>by
  by_cases z:a<b
  ·rw[decide_eq_true (Fz.mpr (iS z)),decide_eq_false (Ih.mpr z)];rfl
  ·have:¬([a]:dD)<[b]:=λq=>by
    rcases Fz.mp q with q|⟨_,q⟩
    ·exact z q
    ·exact zK9
   rw[decide_eq_false this,decide_eq_true (mI z)];rfl
 rw[f,d,one,one]at e;simp[Jh,QN,e]
noncomputable def nm7(x:Str):Bool:=(SV&&HY x)&&(x.cps.toList.all (λc=>v9)&&!decide BX)
theorem nm7_iff{x:Str}:nm7 x=true↔Nm x:=by
 unfold nm7;simp only[NL,decide_eq_true_eq,NV,Fp,decide_eq_false_iff_not];exact⟨λ⟨iI a b,c,d⟩=>⟨a,b,c,d⟩,λh=>⟨⟨h.lo,h.hi⟩,h.sm,h.kp⟩⟩
theorem Qom{x:Str}{h:MH}(m:zN6):Zi [aJ x] h=sO (.bl (nm7 x),h):=by
 refine QC (g:=[]) aF ?_ rfl;have i:lT:=KY (Nv (Nk m aA));have r:mFn JT (Qb aE Ql) [bA x] []=sO (zR x,[]):=oO i
 have a:XJ wLe wLe aM (mFn JT (Qb aE Ql)) (mC Zt) [bA x] []=sO (.bl (decide (eS<=x.length)&&decide (p9<=8)),[]):=zI4 r;have o:decide (eS<=x.length)=SV:=T8
 have n:decide (p9<=8)=HY x:=T8
 rw[o,n]at a
 have b:=Vo (fin:=Jd) (mi:=QP aE) (cp:=[nO]) (me:=QD 1 QV (Qb aE Ql)) (σ:=[bA x]) (caps:=[]) (h:=[]) (items:=X7 x) (λw=>match w with|aJ s=>.bl (s.cps.toList.all λc=>v9)|_=>iN) rfl cN (λw hw=>by
  unfold X7 at hw;show l0 c y
  simp[Qov]) jo2
 have em:(X7 x).map (λw=>match w with|aJ s=>W.bl (s.cps.toList.all λc=>v9)|_=>iN)=x.cps.toList.map λc=>W.bl y0:=by
  unfold X7;rw[El];exact DK λc _=>aY
 show uF b;rw[em]at b;have d:Qap [.lst (x.cps.toList.map λc=>W.bl y0)] []=sO (.bl (x.cps.toList.all λc=>v9),[]):=Gq;have p:wIn true cM Hs []=sO (.bl (!decide BX),[]):=by rw[Gc];rfl
 have e:wIn true cM Ys []=sO (.bl (!decide BX),[]):=p;unfold nm7;cases f:(SV&&HY x)with
 |false=>rw[f]at a;simp[VJ,QN,a,JW]
 |true=>
  rw[f]at a;cases j:x.cps.toList.all (λc=>v9)with
  |false=>rw[j]at d;simp[VJ,QN,b,d,a,JW,-NV,-DV]
  |true=>rw[j]at d;simp[VJ,QN,b,d,e,a,JW,-NV,-DV]
noncomputable abbrev scr(ns:eX):W:=.frz (pK W)
theorem Yd{n j:Nat}{w:W}(h:(Zj 0 n)[j]?=sO w):j<n/\w=aL j:=by
 obtain⟨a,b⟩:=QfF h;exact⟨a,by rw[b];simp⟩
theorem szN{n:Nat}(h:n<=100000):n<sizeLine:=Nk h aA
theorem Qi6{items:aH}{src:rC}{b:MG}{body:SM}(P:zD0)(e:∀n σ h,P n σ h->p5):∀(r:aH) (n:Nat) (σ:MSt) (h:MH),P n σ h ->
  (∀(j:Nat) (w:W),r[j]?=sO w->∀σ h,P (n+j) σ h->∃σ1,zJ7/\∃a f,(Pg=m8 a f\/Pg=sO (.ct a f))/\P (n+j+1) a f) ->
  ∃c h',zD9 σ h=m8 c h'/\zK2 r:=by
 intro r
 induction r with
 |nil=>
  intro n σ h d _;exact⟨σ,h,by rw[Kf,if_pos (e _ _ _ d)],d⟩
 | cons w r o=>
  intro n σ h d i;obtain⟨σ1,t,a,f,g,m⟩:=i 0 w rfl σ h d
  obtain⟨c,h',s,l⟩:=o (n+1) a f m λj x p σ h d=>by
   have:=i (j+1) x (cD p) σ h (zq9 d);show zn8
  refine⟨c,h',?_,by rw[N6,show n+(eY r)=n+1+r.length by lia];exact l⟩;rw[Kf,if_pos (e _ _ _ d),t,Ni]
  rcases g with g|g<;>rw[g]<;>exact s
noncomputable def Qpt(cell k:Int):Int:=
 (zq6%2305843009213693951*(zq6%2305843009213693951)+48271*(zq6%2305843009213693951)+104729*k)%2305843009213693951
theorem Gy(ns:eX)(k:Nat)(o:k<=1000):∃c:Int,0<=c/\∀h:MH,Qw [scr ns,aL k] h=sO (aL c,h):=by
 have d:(yD:Int)<k:=aU
 have b:cT<18446744073709551616:=aU
 have a:∀x:Int,0<=zy7:=λx=>NW _ aA;have f:∀x:Int,yD<zy7:=λx=>by have:=a x;lia
 have e:∀x:Int,zy7<18446744073709551616:=λx=>by have:=NM x (show gK<2305843009213693951 by decide);lia
 by_cases j:0<ns.length
 ·obtain⟨x,l,ex⟩:=Qnw (xs:=ns.map W.int) (i:=cT%(ns.length:Nat)) (NW _ aQ) (by rw[Nz];exact NM _ aQ);show M9 n l;refine⟨Qpt n k,a _,λh=>QC za4 (g:=[]) ?_ aF⟩;simp[VS,QN,scr,j,ex,d,b,f,e,Qpt]
 ·refine⟨Qpt 0 k,a _,λh=>QC za4 (g:=[]) ?_ aF⟩;simp[VS,QN,scr,j,d,b,f,e,Qpt]
theorem Qhs{n:Int}(I:0<=n){bs ws:aD}(c:zh2)(hw:zh3)(F:MD)(E:MJ):∃l:Ln,w6/\∀h:MH,JG [aL n,Jy bs,Jy ws] h=zh4:=by
 have a:gK<bs.length:=aU
 have b:gK<ws.length:=aU
 obtain⟨x,j,ex⟩:=Qbr (xs:=bs) (i:=n/16%zL3) (CC a) (NM _ a);obtain⟨y,f,e⟩:=Qbr (xs:=bs) (i:=n/160%zL3) (CC a) (NM _ a);obtain⟨z,C,d⟩:=Qbr (xs:=bs) (i:=n/1600%zL3) (CC a) (NM _ a);obtain⟨w,r,D⟩:=Qbr (xs:=ws) (i:=n/16000%(ws.length:Nat)) (CC b) (NM _ b);obtain⟨p,s⟩:∃p:Int,p=if 9<n%16 then CZ else n%16:=cN
 have go:∀l:Ln,w6->(∀h,QO [aL n,Jy bs,Jy ws] h=zh4)->∃l:Ln,w6/\∀h:MH,JG [aL n,Jy bs,Jy ws] h=zh4:=λl H G=>⟨l,H,λh=>QC aF (g:=[]) (G []) aF⟩
 by_cases m:9<n%16
 ·rw [bW m]at s
  by_cases o:CZ<3
  ·exact go Bm (.pair j r f C) λh=>by simp[QO,QN,a,b,c,hw,ex,e,d,D,m,o,Qz]
  ·by_cases A:CZ<5
   ·exact go BI (.first j f) λh=>by simp[QO,QN,a,b,c,hw,ex,e,d,m,o,A,Qz]
   ·by_cases v:CZ=5
    ·exact go BA (.second j f) λh=>zr8 v
    ·by_cases u:CZ=6
     ·exact go BS (.same j f) λh=>zr8 u
     ·by_cases t:CZ=7
      ·exact go A2 (.none j) λh=>zr8 t
      ·exact go ["tell",y] (.tell f) λh=>by simp[QO,QN,a,b,c,hw,ex,e,d,m,o,A,v,u,t,Qz]
 ·by_cases o:n%16<3
  ·exact go Bm (.pair j r f C) λh=>by simp[QO,QN,a,b,c,hw,ex,e,d,D,m,o,Qz]
  ·by_cases A:n%16<5
   ·exact go BI (.first j f) λh=>by simp[QO,QN,a,b,c,hw,ex,e,d,m,o,A,Qz]
   ·by_cases v:n%16=5
    ·exact go BA (.second j f) (zr9 v)
    ·by_cases u:n%16=6
     ·exact go BS (.same j f) (zr9 u)
     ·by_cases t:n%16=7
      ·exact go A2 (.none j) (zr9 t)
      ·exact go ["tell",y] (.tell f) λh=>by simp[QO,QN,a,b,c,hw,ex,e,d,m,o,A,v,u,t,Qz]
theorem Qcn{h:MH}{n:Nat}{o:MO}(e:h[n]?=sO o):h.set n o=h:=by
 apply DU;intro i
 by_cases c:n=i
 ·subst c;rw[EA (cG e),e]
 ·rw[DD c]
theorem Qmm:∀{ws:aH},wP->∀{k:Nat},Wf k ws=sO (ws,[]):=by
 intro ws
 induction ws with
 |nil=>
  intro _ k;exact rfl
 |cons a r c=>
  intro b k;show vQ b;have:=c b.2 (k:=k);show Rt
theorem Qib{m:FM}{ws vs:aH}{j:Nat}{g h:MH}(d:wP)(e:m ws []=sO (aG j,g))(f:g[j]?=sO (.lst vs))(b:Vj vs=true):zN2=sO (.lst vs,h):=by
 have c:zC9:=Qmm d
 have:=QgG (m:=m) (args:=ws) (as:=ws) (ns:=[]) (os:=[]) (os':=[]) (g:=g) (h:=h) (w:=aG j) (w':=.lst vs) c aF rfl e rfl aF (by
  unfold th res
  simp[GR,f,Xl _ vs b])
 simpa[ZP]using this
noncomputable def Km:aD:=["pairs","o","seconda","nones","en","backs","eithera","ors","dos","ends","agains","parts","firs"]
noncomputable def Kp:aD:=["same","tells","firsts"]
noncomputable def abc:Str:="abcdefghijklmnopqrstuvwxyz"
theorem Qkn:abc.length=26:=fW
theorem Qgu{i:Int}(h0:0<=i)(h1:i<26)(h:MH):wIx zh9 d3 h=sO (.str ⟨#[97+i.toNat]⟩,h):=by
 have e:abc.cps.toList=(List.range 26).map (97+·):=fW
 refine Qkg (by rw[Qkn];decide) ?_;show zn4
 rw[Jx,e,Nx,De aQ];rfl
theorem QmH:(Km++Kp).Nodup:=by
 unfold Km Kp;simp
theorem Xu{a:Type}{m:Nat}{f:Nat->a}(d:∀i j,i<m->j<m->f i=f j->i=j):((List.range m).map f).Nodup:=by
 unfold List.Nodup;rw[Lw];refine LI ?_ Ol;intro i j c b lt e;have:=d i j (Ek.mp c) (Ek.mp b) e;exact EU yY lt
noncomputable abbrev gS(n:Int)(m:Nat)(x5 x6 x7 x8 x9 a:cH):MSt:=[aS n,aS m,sO zh9,sO (.lst ((Km++Kp).map .str)),sO Hs,x5,x6,x7,x8,x9,a]
theorem Wh{fin:aH->MH->bJ}{ms:MA}{cp:lU}{me:ME}{σ caps:MSt}{h:MH}{m:Nat}(f:Nat->Str)(ei:CV=sO ([.int uL],h))(d:Sy)(a:m<=1000)(c:∀k,k<m->me (sO (.int cT)::caps) h=sO (.str (f k),h)) :
  Zc Jd (KA ms) cp d9 KS me σ h=sO (Jy jz5,h):=by
 let g:W->W:=λw=>match w with|aL i=>.str (f i.toNat)|w=>w
 have:=Vo (fin:=Jd) (mi:=KA ms) (cp:=cp) (me:=me) (σ:=σ) (h:=h) (items:=Zj 0 m) g (Kn ei (Nk a aA)) d (by
  show zI6;show l0 k b;show jm3) (by rw[Xt];exact Nv (szN (Nv (Nk a aA))))
 rw[this];show jl0;unfold Jy Zj;rw[El,El];congr 3;apply DK;intro k _;simp[g]
theorem Qqo{a b:aH}{h:MH}:Zd oN (.lst b) h=if a.length+b.length<=sizeLine then sO (.lst (a++b),h)else nO:=aW
theorem Uo{n:Int}{m:Nat}{f:SM}:QG (Q6 2 Ha) (QG zS4
  (QG (Q6 3 (Qi Zd cB zU1))
  (QG (Q6 4 (mFn Xf Rm)) f)))
  [aS n,aS m,nO,nO,nO,nO,nO,nO,nO,nO,nO] []=f (gS n m nO nO nO nO nO nO) []:=by
 have b:13<=sizeLine:=a'
 have s12:12<=sizeLine:=a'
 have a:16<=sizeLine:=a'
 simp[gS,b,s12,a,Km,Kp,keptN,abc,Qqo]
noncomputable def nmX(b a:Str)(q:Int)(k:Nat):Str:=b++(⟨#[97+((q+3*cT)%26).toNat]⟩:Str)++a
noncomputable def nm(b a:Str)(q:Int)(k:Nat):Str:=if CD k∈keptN then CD k++"s"else CD k
theorem KD(x y:Str):zp1:=by
 show zx8
theorem Qkm{x y:Str}(h:ju9):x=y:=Sp.ext h
theorem QgD{b a:Str}{q:Int}{i j:Nat}(hi:i<5)(c:j<5)(e:CD i=CD j):i=j:=by
 have:=ji0;unfold nmX at this;simp only[KD,Ir,List.append_cancel_left_eq]at this;show k7;have f:0<=(q+3*eB)%26:=NW _ aA;have d:0<=(q+3*kT)%26:=NW _ aA;lia
theorem Qoo{b a:Str}{q:Int}{i j:Nat}(hi:i<5)(f:j<5)(e:nm b a q i=nm b a q j):i=j:=by
 have c:∀k,(nmX b a q k).cps.toList.length=jc6:=λk=>by
  unfold nmX;rw[KD,KD,Nw,Nw];rfl
 have d:∀k,(CD k++("s":Str)).cps.toList.length=jc6+1:=λk=>by
  rw[KD,Nw,c];rfl
 have g:=RE;unfold nm at e g;split at e<;>split at e
 ·have:=ji0;simp only[KD,List.append_cancel_right_eq]at this;exact QgD hi f (Qkm this)
 ·have:=RE;simp only[d,c]at this;lia
 ·have:=RE;simp only[d,c]at this;lia
 ·exact QgD hi f e
theorem QmE{x:Str}{h:MH}:wIn false cM Hs h=sO (.bl (decide BX),h):=by
 rw[Ql1 rfl X4 za3 (Ng VC aA)]
 have:inW cM zG1=decide BX:=by
  generalize keptN=L
  induction L with
  |nil=>rfl
  | cons y L b=>
   unfold inW at b ⊢;rw[NA,Dk,b,DF];simp only[eqW,Dn,beq_iff_eq,decide_eq_true_eq,NC];constructor
   ·show Sl a
    ·exact gY a
   ·show Sl a
    ·exact gY a
 show mD
noncomputable def nmB(x:Str):Bool:=SV&&(HY x&&(x.cps.toList.all (λc=>v9)&&!(keptN.contains x)))
theorem Ql0{x:Str}(h:nmB x=true):Nm x:=by
 unfold nmB at h;simp only[NL,decide_eq_true_eq,NV,Fp,List.contains_eq_mem,decide_eq_false_iff_not]at h;exact⟨h.1,h.2.1,h.2.2.1,h.2.2.2⟩
theorem QmF:∀x∈Km++Kp,Nm x:=λx a=>Ql0 ((fW:∀x∈Km++Kp,nmB x=true) x a)
theorem QoQ:∀x∈keptN,Nm (x++"s"):=λx a=>Ql0 ((fW:∀x∈keptN,nmB (x++"s")=true) x a)
theorem Qjb:Nm "spare":=Ql0 bB
theorem Qhd:∀x∈keptN,(x.cps.toList.all λc=>c==x.cps.toList.headD 0)=false:=fW
theorem QnG{x:Str}{c n:Nat}(e:x.cps.toList=List.replicate n c)(h1:1<=n)(g:n<=8)(f:97<=c)(b:c<=122):Nm x:=by
 refine⟨by rw[Yy,e];show lJ h1,by rw[Yy,e];show lJ g,λd hd=>by rw[e]at hd;rw[List.eq_of_mem_replicate hd];show lL f b,fX a⟩;have:=Qhd x a;rw[e]at this;obtain⟨m,rfl⟩:∃m,n=m+1:=⟨n-1,fZ⟩
 rw[Eu]at this;show k7
theorem QjA:∀(zs:aD),(Str.join "" zs).cps.toList=(zs.map (·.cps.toList)).flatten
 |[]=>rfl
 |[a]=>by show a.cps.toList=_;simp
 |a::b::r=>by
  rw[Sp.join_cons2,KD,KD,QjA Au];show _++[]++_=_;simp
theorem QmV{b a:Str}{q:Int}{k:Nat}(d:∀c∈b.cps.toList++a.cps.toList,97<=c/\c<=122)(g:b.cps.toList.length+a.cps.toList.length<=7):Nm (nm b a q k):=by
 unfold nm;split
 ·rename_i h;exact QoQ _ h
 ·rename_i h;have e:(nmX b a q k).cps.toList=b.cps.toList++[97+((q+3*cT)%26).toNat]++a.cps.toList:=by unfold nmX;rw[KD,KD]
  refine⟨ji1,ji1,bQ c f,h⟩;rw[e]at f;simp at f d
  rcases f with z|z|z
  ·exact d c (iS z)
  ·have j:0<=(q+3*cT)%26:=NW _ aA;have i:(q+3*cT)%26<26:=NM _ aA;omega
  ·exact d c (.inr z)
noncomputable def Yu(n:Int)(sz:Nat):Str:=Txt.join "" ((List.range sz).map λ(k:Nat)=>(⟨#[97+((n/360+5*cT*k)%26).toNat]⟩:Str))
theorem Qbs(n:Int)(sz:Nat):zz8=(List.range sz).map λ(k:Nat)=>97+((n/360+5*cT*k)%26).toNat:=by
 unfold Yu;rw[show∀b,Txt.join ("":Str) b=Str.join "" b from λb=>DI (join_plain_closes _ _),QjA,El]
 induction List.range sz with
 |nil=>rfl
 |cons a l c=>simp at c ⊢;exact c
theorem Uw(n:Int)(sz:Nat):(Yu n sz).length=sz:=by rw[Yy,Qbs];simp
theorem Qgo{n:Int}{sz:Nat}{a:Int}(h0:0<=a)(h1:a<=sz) :
  (Txt.slice Po nO pU).cps.toList++(Txt.slice Po pU nO).cps.toList=zz8:=by
 have d:=Uw n sz;have c:=Yy Po;have g:=DI (slice_closes_to (x:=Yu n sz) (j:=a) ⟨h0,fZ⟩);have f:=slice_from_eq (x:=Yu n sz) (i:=a) (b:=sz) h0 bL bL;rw[g,f];have e:((Yu n sz).cps.toList.drop a.toNat).take ((sz:Int)-a).toNat=(Yu n sz).cps.toList.drop a.toNat:=DO (by rw[D3,<-c,d];omega);simp only[e];simp
theorem QeR{σ:MSt}{n:Int}{sz:Nat}(s:sz<=8)(f:σ[5]?=sO vZ)(g:σ[2]?=sO (sO zh9))(h0:σ[0]?=sO (bG n)):mMt "str" Xp Bw (Qb (Zc Jd (KA gO) tN d9 KS (Qi wIx aK (Qi JL (Qi Zd (Qi V8 aV V0) (Qi JV (Qi JV gQ aE) aE)) vW))) Ql) σ []=sO (.str Po,[]):=by
 have j:=Wh (fin:=Jd) (ms:=Qb hY Ql) (cp:=tN) (me:=Qi wIx aK (Qi JL (Qi Zd (Qi V8 aV V0) (Qi JV (Qi JV gQ aE) aE)) vW)) (σ:=σ) (caps:=[sO zh9,aS n]) (h:=[]) (m:=sz) (λk=>(⟨#[97+((n/360+5*cT*k)%26).toNat]⟩:Str)) (by simp[Qe,f]) ⟨nO,by simp[Qd3,g,h0]⟩ bL (λk t=>by
  have d:(yD:Int)<k:=aU
  have c:cT<18446744073709551616:=aU
  have o:=Qgu (i:=(n/360+5*cT*k)%26) (NW _ aA) (NM _ aA) []
  simp[d,c,o])
 rw[Qta (a:=.str "") rfl rfl (Qne j Qrk)];refine Qh1 ?_
 have:∀l:dD,((l.map λ(k:Nat)=>(⟨#[97+((n/360+5*cT*k)%26).toNat]⟩:Str)).map (·.length)).sum=l.length:=λl=>by
  induction l with
  |nil=>rfl
  |cons a l e=>rw[NA,NA,OW,e,N6,Nat.add_comm];rfl
 rw[this,DW];omega
theorem Gn{n:Int}(hn:0<=n){m:Nat}(F:m<=5):∃xs:aD,xs.length=m/\(xs.Nodup/\∀x∈xs,Nm x)/\∀h:MH,QU [aL n,aL m] h=sO (Jy xs,h):=by
 by_cases c0:n%5=0
 ·let f:Nat->Str:=λk=>(Km++Kp).getD ((n/5+cT)%16).toNat ""
  refine⟨(List.range m).map f,aY,⟨Xu λi j hi P e=>?_,λx hx=>?_⟩,λh=>QC aF (g:=[]) ?_ aF⟩
  ·have a0:0<=(n/5+eB)%16:=NW _ aA;have a1:(n/5+eB)%16<16:=NM _ aA;have b0:0<=(n/5+kT)%16:=NW _ aA;have d:(n/5+kT)%16<16:=NM _ aA;have v:Bs=16:=rfl;have R:((n/5+eB)%16).toNat<Bs:=by rw[v];lia
   have A:((n/5+kT)%16).toNat<Bs:=by rw[v];lia
   have e':(Km++Kp)[((n/5+eB)%16).toNat]=(Km++Kp)[((n/5+kT)%16).toNat]:=by
    simp only[f,Ec]at e;rwa[Nl R,Nl A]at e
   have:=(LD (h₀:=R) (h₁:=A) QmH).mp e';omega
  ·obtain⟨i,_,rfl⟩:=NI.mp hx;have a1:(n/5+eB)%16<16:=NM _ aA;have v:Bs=16:=rfl;have R:((n/5+eB)%16).toNat<Bs:=by rw[v];omega
   simp only[f,Ec];rw[Nl R];exact QmF _ (Dj R)
  ·have r:=Wh (fin:=Jd) (ms:=Qb aK Ql) (cp:=zb4) (me:=Qi wIx aK (Qi JL (Qi Zd (Qi V8 aV gQ) aE) z5)) (σ:=jz6) (h:=[]) (m:=m) f rfl cN (Nv (Nk F aA)) (λk B=>by
    have a0:0<=(n/5+cT)%16:=NW _ aA;have a1:(n/5+cT)%16<16:=NM _ aA
    have E:atI ((Km++Kp).map W.str) ((n/5+cT)%16)=sO (.str (f k)):=by
     obtain⟨q,hq⟩:∃q:Nat,(n/5+cT)%16=q:=⟨((n/5+cT)%16).toNat,zu7⟩
     have O:q<Bs:=by show q<16;lia
     simp only[f,hq,EW];rw[Jx,Nx,Nl O];simp[Ec,Nl O]
    rw[Ed]at E
    simp[E])
   unfold J4 QN;show Qme (QG _ zw8 [aS n,aS m,nO,nO,nO,nO,nO,nO,nO,nO,nO] [])=_;rw[Uo];generalize Zc Jd (KA (Qb aK Ql)) zb4 d9 KS (Qi wIx aK (Qi JL (Qi Zd (Qi V8 aV gQ) aE) z5))=co at r;generalize p:HR=L at r;simp only[gS,p]at r;simp only[gS,p];simp[c0,r]
 ·by_cases Y:n%5=1
  ·have h0:0<=n/5%26:=NW _ aA;have h1:n/5%26<26:=NM _ aA
   let x:Str:=⟨#[97+(n/5%26).toNat]⟩
   have rl:∀k:Nat,(rep x (cT+1)).cps.toList.length=k+1:=λk=>by
    unfold rep;rw[show(cT+1).toNat=k+1 by exact rfl];simp[x,Qan]
   refine⟨(List.range m).map λ(k:Nat)=>rep x (cT+1),aY,⟨Xu λi j hi P e=>?_,bQ y N⟩,λh=>QC aF (g:=[]) ?_ aF⟩
   ·have:=RE;simp only[rl]at this;lia
   ·show p8 k B N;have ak:=Ek.mp B
    have X:=QnG (x:=rep x (cT+1)) (c:=97+(n/5%26).toNat) (n:=k+1) (by
     unfold rep;rw[show(cT+1).toNat=k+1 by exact rfl]
     simp[x]) bL bL bL bL
    exact X
   ·have r:=Wh (fin:=Jd) (ms:=Qb aK Ql) (cp:=tN) (me:=Qi JV (Qi wIx aK (Qi JL (Qi V8 aV gQ) vW)) (Qi Zd aE aM)) (σ:=jz6) (h:=[]) (m:=m) (λ(k:Nat)=>rep x (cT+1)) rfl cN (Nv (Nk F aA)) (λk B=>by
     have E:=Qgu h0 h1 [];have em:JV cM (.int (cT+1)) []=sO (.str (rep x (cT+1)),[]):=QnX ⟨aU,aU,by show x.cps.size<1000;simp[x]⟩
     simp[E,em,x]at em ⊢)
    unfold J4 QN;show Qme (QG _ zw8 [aS n,aS m,nO,nO,nO,nO,nO,nO,nO,nO,nO] [])=_;rw[Uo];generalize Zc Jd (KA (Qb aK Ql)) tN d9 KS (Qi JV (Qi wIx aK (Qi JL (Qi V8 aV gQ) vW)) (Qi Zd aE aM))=co at r;generalize p:HR=L at r;simp only[gS,p]at r;simp only[gS,p];simp[Y,r]
  ·have s0:0<=n/5%8:=NW _ aA;have s1:n/5%8<8:=NM _ aA;obtain⟨sz,aa⟩:∃sz:Nat,n/5%8=sz:=⟨(n/5%8).toNat,zu7⟩
   obtain⟨o,Q⟩:∃a:Int,n/40%(sz+1)=a:=cN
   have sp:gK<sz+1:=aU
   obtain⟨t,C⟩:∃t:Str,t=Yu n sz:=cN
   have H:=QeR (σ:=gS n m vZ (bG o) nO nO nO nO) (n:=n) (sz:=sz) aQ rfl rfl rfl;rw[<-C]at H;have ht:t.length<=sz:=by rw[C,Uw];exact Ny _
   let d:Str:=Txt.slice t nO Do
   let l:Str:=Txt.slice t Do nO
   have l1:d.length<=10:=Ng (Fv t _ _) aQ;have l2:l.length<=10:=Ng (Fv t _ _) bL
   have ab:∀y∈(List.range m).map λk=>mV k,Nm y:=λy N=>by
    show M9 k N
    have r:d.cps.toList++l.cps.toList=zz8:=by
     simp only[d,l,C];exact Qgo (by rw[<-Q];exact NW _ bL) (by have:=NM (n/40) sp;omega)
    refine QmV (mK c X) ?_
    ·rw[r,Qbs]at X;show M9 i X;have a1:(n/360+5*eB*i)%26<26:=NM _ aA;omega
    ·have:=HD r;rw[Nw,<-Yy Po,Uw]at this;omega
   have lt':t.length<=sizeLine:=Nv (szN aQ);have q0:∀k:Nat,0<=(n/9360+3*cT)%26:=λk=>NW _ aA;have q1:∀k:Nat,(n/9360+3*cT)%26<26:=λk=>NM _ aA
   have len:∀x y:Str,zP2=yO:=λx y=>by
    show(x.cps++y.cps).size=_;simp[Str.length]
   have M:=JD (items:=Zj 0 m) (b:=ZK 9) (body:=Vy) (λj J h=>∃U u,J=gS n m vZ (bG o) BF lZ U u/\h=[.lst (((List.range j).map λk=>mV k).map .str)])
    (Zj 0 m) 0 (gS n m vZ (bG o) BF lZ nO nO) [bN] ⟨nO,nO,rfl,rfl⟩ (by
     show zl9 P J h U u
     obtain⟨ae,rfl⟩:=Yd P;rw[NU]at *;have E:=λh=>Qgu (q0 j) (q1 j) h;have Y:zi4<=sizeLine:=Nv (szN (Nk l1 aA));have c2:zi4+l.length<=sizeLine:=Nv (szN aQ);have c3:zi4+l.length+1<=sizeLine:=Nv (szN aQ);have z:j<sizeLine:=szN (Nv (EG (Np ae F) aA));have Z:(RF:Str).length=1:=rfl;have ls:("s":Str).length=1:=fW
     have ek:=λh=>QmE (x:=HS) (h:=h);have T:∀h,wSl (lM t) nO Do h=sO (aJ d,h):=λh=>Qfv lt';have S:∀h,wSl (lM t) Do nO h=sO (aJ l,h):=λh=>Qfv lt';have en:(List.range (j+1)).map (λk=>mV k)=(List.range j).map (λk=>mV k)++[mV j]:=by rw[L6,Ed];rfl
     refine⟨gS n m vZ (bG o) BF lZ (bG j) u,rfl,gS n m vZ (bG o) BF lZ (bG j) (sO (.str (nm d l Cw j))),_,j0,aS j,sO (.str (nm d l Cw j)),rfl,rfl⟩;rw[en,Ed];have e1:∀h,Zd (lM d) (.str (RF:Str)) h=sO (.str (d++(RF:Str)),h):=λh=>by rw[Qeu,if_pos (tZ Z Y)]
     have e2:∀h,Zd (.str (d++(RF:Str))) (lM l) h=sO (.str (nmX d l Cw j),h):=λh=>by rw[Qeu,if_pos (by rw[len,Z];exact c2)];rfl
     have e3:∀h,Zd (.str (nmX d l Cw j)) (.str "s") h=sO (.str (HS++"s"),h):=λh=>by rw[Qeu,if_pos (by unfold nmX;rw[len,len,Z,ls];exact c3)]
     have A:=λh=>ek h;clear ek
     by_cases B:HS∈keptN
     ·have ej:mV j=HS++"s":=by unfold nm;rw[bW B]
      rw[ej];rw[oF B]at A;generalize p:HR=L;generalize G:zL4=K at A;generalize hM:((List.range j).map λk=>mV k).map W.str=MM;have D:MM.length=j:=by rw[<-hM];simp
      simp[gS,p,G,T,S,E,e1,e2,e3,A,tyW,D,z]
     ·have ej:mV j=HS:=by unfold nm;rw[cR B]
      rw[ej];rw[qQ B]at A;generalize p:HR=L;generalize G:zL4=K at A;generalize hM:((List.range j).map λk=>mV k).map W.str=MM;have D:MM.length=j:=by rw[<-hM];simp
      simp[gS,p,G,T,S,E,e1,e2,A,tyW,D,z])
   obtain⟨ai,h',el,U,u,rfl,rfl⟩:=M;rw[Xt,NU]at el;refine⟨(List.range m).map λk=>mV k,aY,⟨Xu λi j hi P e=>Qoo (Np hi F) (Np P F) e,bQ y N⟩,fX h⟩
   ·exact ab y N
   ·have I:JX (KA (Qb aK Ql)) (ZK 9) Vy (gS n m vZ (bG o) BF lZ nO nO) [bN]=sO (.nx (gS n m vZ (bG o) BF lZ U u) [.lst (((List.range m).map λk=>mV k).map .str)]):=by
     unfold JX;rw[Kn (j:=m) rfl (Nk F aA),Ni];exact el
    refine Qib (j:=0) (g:=[.lst (((List.range m).map λk=>mV k).map .str)]) aF ?_ rfl QhS;unfold J4 QN;show Qme (QG _ zw8 [aS n,aS m,nO,nO,nO,nO,nO,nO,nO,nO,nO] [])=_;rw[Uo];generalize JX (KA (Qb aK Ql)) (ZK 9) Vy=fo at I;generalize mMt "str" Xp Bw (Qb (Zc Jd (KA gO) tN d9 KS (Qi wIx aK (Qi JL (Qi Zd (Qi V8 aV V0) (Qi JV (Qi JV gQ aE) aE)) vW))) Ql)=jo at H;generalize p:HR=L at I H;generalize G:zL4=K at I H;generalize((List.range m).map λk=>mV k).map W.str=MM at I;simp only[gS,p,G]at I H;simp only[gS,p,G];have aj:0<sz+1:=by exact Fx _
    simp[c0,Y,aa,Q,sp,H,I]
noncomputable def dcn(ls:d4):Nat:=ls.countP Kw
theorem Gp(L:d4)(l:Ln):dcn uM=dcn L+(if iO then 1 else 0):=by simp[dcn,List.countP_append,LN]
theorem Qic{bs ws:aD}{l:Ln}(h:w6):gE:=by cases h<;>(show C2)<;>decide
theorem Qa7(l:Ln):ZG [] l=if Yr l=true/\zj2 then⟨0,1,0,0⟩else tR:=by
 unfold ZG;cases Kw l<;>cases Yr l<;>simp[look]
theorem K4(l:Ln):(ZG [] l).dp=0:=by rw[Qa7];split<;>rfl
structure LnSt(bs ws os:aD)(D lf0:Int)(L:d4)(wt:aD)(lf:Int):Prop where
 ok:∀l∈L,LineOk bs ws os l/\gE
 kr:zc4 L=sO (wt.reverse.map cd)
 op:∀x∈wt,zt4
 lv:zM0=wt.length
 dp:(JU [] qz L).dp<=D
 wd:Bt<=D
 dn:(dcn L:Int)+lf=lf0
 lp:0<=lf
section
variable{bs ws os:aD}{D lf0 lf:Int}{L:d4}{wt:aD}
theorem QpV(a:0<=D)(h:0<=lf):LnSt bs ws os D lf [] [] lf:=⟨aY,rfl,aY,rfl,a,cL a,by simp[dcn],h⟩
theorem LnSt.snoc(g:Hl){l:Ln}{a:aD}{b:Int}(h:LineOk bs ws os l)(j:gE)(i:kst (cdL l) (wt.reverse.map cd)=sO (a.reverse.map cd))(d:∀x∈a,zt4)(e:Bt+zZ=a.length)(hw:(a.length:Int)<=D)(hd:(if iO then eS else 0)+b=lf)(f:0<=b):LnSt bs ws os D lf0 uM a b:=by
 refine⟨Uz g.ok (iI h j),by rw[Qc4];exact QiF g.kr i,d,?_,?_,hw,?_,f⟩
 ·rw[Zl];show zM0+zZ=_;rw[g.lv,e]
 ·rw[Zl];show max (JU [] qz L).dp (zM0+zZ+(ZG [] l).dp)<=D;rw[K4,g.lv,e];have:=g.dp;omega
 ·have:=g.dn;rw[Gp]
  by_cases c:iO
  ·rw[bW c]at hd ⊢;show rK
  ·rw[cR c]at hd ⊢;show rK
theorem LnSt.push(g:Hl){y:Str}(a:Cm\/y="again")(hw:Bt<D):LnSt bs ws os D lf0 (L++[[y]]) (wt++[y]) lf:=by
 refine g.snoc (.blk (a.elim .inl λz=>.inr (iS z))) (by rcases a with rfl|rfl<;>decide) ?_ (Uz g.op (a.elim .inl λz=>.inr (iS z))) ?_ (by simp;omega) ?_ g.lp
 ·rw[Xr];show Tc
 ·rcases a with rfl|rfl<;>simp[cdL,QaR,QcM,ch]
 ·rcases a with rfl|rfl<;>simp[Kw]
theorem LnSt.orr(g:LnSt bs ws os D lf0 L (wt++[("either":Str)]) lf):LnSt bs ws os D lf0 (L++[orL]) (wt++[("or":Str)]) lf:=by
 refine g.snoc (.blk (.inr (.inr fE))) aA ?_ (QeS g.op (.inr wM)) ?_ jd6 (by simp[Kw,orL]) g.lp
 ·rw[Xr,Xr];rfl
 ·simp[cdL,orL,Qm6,ch]
theorem LnSt.endd{y:Str}(g:LnSt bs ws os D lf0 L (wt++[y]) lf)(b:y≠"either"):LnSt bs ws os D lf0 (L++[Qkl]) wt lf:=by
 have a:=g.op y aF;refine g.snoc (.blk (.inr (.inr wM))) aA ?_ (λx c=>g.op x (Ee _ c)) ?_ jd6 (by simp[Kw,Qkl]) g.lp
 ·rw[Xr]
  rcases a with rfl|rfl|rfl
  ·exact nE b
  ·rfl
  ·rfl
 ·simp[cdL,Qkl,Qnp,ch];omega
theorem LnSt.pln(g:Hl){l:Ln}(h:w6):LnSt bs ws os D lf0 uM wt lf:=
 g.snoc (.plain h) (Qic h) (by rw[QcQ h];rfl) g.op (by rw[QcQ h];simp[ch]) g.wd (by rw[Qc0 h];simp) g.lp
theorem LnSt.doo(g:Hl){o:Str}(h:o∈os)(a:0<lf):LnSt bs ws os D lf0 (L++[(["do",o]:Ln)]) wt (lf-1):=
 g.snoc (.do h) (by show C2;decide) rfl g.op (by show _+ch (cd "do")=_;rw[jt6];simp[ch]) g.wd (by rw[show Kw (["do",o]:Ln)=true from jw3];simp;omega) bL
noncomputable def clo(y:Str):d4:=if Cm then[orL,Qkl]else[Qkl]
noncomputable def cls(wt:aD):d4:=wt.reverse.flatMap clo
theorem QcP(wt:aD)(y:Str):cls (wt++[y])=clo y++cls wt:=by simp[cls]
theorem QkD:∀(n:Nat) (wt:aD),wt.length=n->(cls wt).length<=2*n:=by
 intro n
 induction n with
 |zero=>
  intro wt h;rw[CU];exact Eg _
 |succ n a=>
  intro wt h;obtain⟨r,y,rfl⟩:=QhZ wt (by intro z;show rM z h);have:=a r (cD h);rw[QcP,Nw];show jo4 y
  omega
theorem LnSt.close:∀(n:Nat) {L:d4} {wt:aD},wt.length=n->Hl->LnSt bs ws os D lf0 (L++cls wt) [] lf:=by
 intro n
 induction n with
 |zero=>
  intro L wt h g;obtain rfl:=CU;rw[show cls []=[]from rfl,E2];exact g
 |succ n a=>
  intro L wt h g;obtain⟨r,y,rfl⟩:=QhZ wt (by intro z;show rM z h);have b:r.length=n:=cL h
  rw[QcP,<-Ir];refine a b ?_;unfold clo;split
  ·rename_i e;subst e;rw[show([orL,Qkl]:d4)=[orL]++[Qkl]from rfl,<-Ir];exact g.orr.endd aA
  ·rename_i e;exact g.endd e
#print "-"
theorem QeJ{wt:aD}(N:wt.length<=1000){h:MH}{n:Nat}(v:h[n]?=sO (.lst (wt.map .str))):Z2 [aG n] h=sO (.lst ((cls wt).map Qz),h):=by
 have d:=Qi6 (items:=(wt.map W.str).reverse) (src:=sO (.r 0)) (b:=ZK 2) (body:=KQ) (λn e h=>∃(x:cH),e=[cE,sO gI,x]/\h=[vO,.lst (((wt.reverse.take n).flatMap clo).map Qz)])
  (by
   rintro n e h ⟨x,rfl,rfl⟩ z F
   cases F;show sO (MO.lst (wt.map W.str))=sO (.lst ((wt.map W.str).reverse.reverse))
   rw[FC])
  ((wt.map W.str).reverse) 0 [cE,sO gI,nO] [vO,bN] ⟨nO,rfl,rfl⟩ (by
   rintro j w A e h ⟨x,rfl,rfl⟩
   rw[<-List.map_reverse,Nx]at A;show l8 y u A;have i:=cG u;rw[Et]at i;rw[NU]at *;have G:(wt.reverse.take (j+1)).flatMap clo=jm4++clo y:=by rw[Ez,u];simp
   have p:∀l:aD,(l.flatMap clo).length<=2*l.length:=λl=>by
    induction l with
    |nil=>simp
    |cons a l M=>
     rw[Iw,Nw,N6];show jo4 a
     omega
   have B:=p (wt.reverse.take j);rw[EL,Et]at B;rw[G];generalize jm4=f at B;have t:f.length<sizeLine:=szN aQ;have D:f.length+1<sizeLine:=szN aQ;refine⟨[cE,sO gI,bA y],rfl,[cE,sO gI,bA y],[vO,.lst ((f++clo y).map Qz)],j0,_,rfl,rfl⟩
   by_cases c:Cm
   ·simp[c,clo,t,D,tyW,Qz]
   ·simp[c,clo,t,tyW,Qz])
 obtain⟨C,O,s,x,rfl,rfl⟩:=d;have ei:Qmw (Qb aE Ql) [cE,sO gI,nO] [vO,bN]=sO ((wt.map W.str).reverse,sO (.r 0),[vO,bN]):=rfl;rw[Et,Nz,NU,DO aF]at s
 have:=QiG (m:=JI) (ws:=[]) (vs:=(cls wt).map Qz) (o:=vO) (o':=vO) (n:=n) (j:=0) (g:=[.lst ((cls wt).map Qz)]) (h:=h) rfl v aF (by
  have H:((wt.reverse.flatMap clo).map Qz)=(cls wt).map Qz:=rfl;rw[H]at s
  simp[JI,QN,JX,ei,s]) rfl aF ⟨_,rfl,aY⟩
 rw[show Z2=box frN JI from rfl,this,Qcn v]
theorem in2{i a b:Int}{h:MH}:wIn false d3 (.tup [aL a,aL b]) h=sO (.bl (decide (i=a\/i=b)),h):=by
 rw[Ql1 rfl (by simp[WU,pln]) za3 (by simp[UN,dep])]
 have:inW d3 [aL a,aL b]=decide (i=a\/i=b):=by
  rw[DF];simp only[inW,Dk,List.any_nil,OS,Dn,eqW,beq_iff_eq,decide_eq_true_eq];constructor
  ·show Sl z
   ·exact .inr z.symm
  ·show Sl z
   ·exact .inr z.symm
 show mD
theorem Qka{n:Nat}{ws:aD}{h:MH}(a:h[n]?=sO (.lst iU)):wNe (aC n) jD h=sO (.bl zC,h):=by
 have c:drf h 40 (aC n)=sO (.lst iU):=by
  unfold drf;simp only[a,KC h iU 39 X4 (Ng VC aA),Dp]
 have b:drf h 40 jD=sO jD:=K8 h _ 40 rfl Ts;unfold wNe;rw[c,b];cases ws<;>simp[eqW,K5]
theorem Qkt{ws:aD}{h:MH}:wNe (Jy ws) jD h=sO (.bl zC,h):=by
 rw[Qsx GY rfl (Ng QcA aA) Ts];cases ws<;>simp[Jy,eqW,K5]
theorem QbY{a:Type}{xs:g8}{y:a}:zN1 y=sO y:=by
 unfold atI ixN;rw[if_neg aA,if_pos (by rw[Nw,NX];lia)];have:(-1+((xs++[y]).length:Int)).toNat=xs.length:=by rw[Nw,NX];lia
 rw[Ni,this];simp
theorem Qlc{n:Nat}(h:0<n):ixN n (-1)=sO (n-1):=by
 unfold ixN;rw[if_neg aA,if_pos aQ];congr 1;lia
noncomputable abbrev nS(nu:W)(bs ws os:aD)(dp:Int)(x8 x9:cH):MSt:=[sO nu,Cj,Pi,sO (Jy os),sO (.int dp),cE,sO gI,sO (.ref 2),x8,x9]
noncomputable abbrev nH(lf:Int)(ls:d4)(wt:aD):MH:=[BC,.lst n0,vO]
theorem Qmp {nu:W} {bs ws os:aD} (Z:zh2) (hw:zh3) (O:MD) (L:MJ) {dp lf:Int} {ls:d4} {wt:aD} {c:Int} (Y:0<=c) {x9:cH} (X:ls.length<=1000) (I:wt.length<=1000) {t:Int} (g:LnSt bs ws os dp t ls wt lf) :
  ∃v l s,LnSt bs ws os dp t (ls++[l]) s v/\XT (nS nu bs ws os dp (bG c) x9) (nH lf ls wt)=sO (.nx (nS nu bs ws os dp (bG c) (sO (.int (c%16)))) (nH v (ls++[l]) s)):=by
 have d:ls.length<sizeLine:=szN (Nv (Nk X aA));have R:wt.length<sizeLine:=szN (Nv (Nk I aA));have f:=Qka (n:=2) (ws:=wt) (h:=nH lf ls wt) rfl;have B:=λh=>Qkt (ws:=os) (h:=h);have w:atI [W.int lf] 0=sO (.int lf):=rfl
 by_cases E:HK/\Bt<dp
 ·obtain⟨y,Q⟩:∃y:Str,atI [W.str "either",.str "again"] (if c%16=12 then 1 else 0)=bA y/\(Cm\/y="again"):=by
   by_cases z:c%16=12
   ·exact⟨"again",by rw[bW z];rfl,PV⟩
   ·exact⟨"either",by rw[cR z];rfl,uG⟩
  have C:atI (wt.map W.str++[aJ y]) (-1)=bA y:=QbY;refine⟨lf,[y],wt++[y],g.push Q.2 E.2,?_⟩;have e1:=Q.1;simp[nS,nH,in2,E,d,R,tyW,Qg9,e1,C,Qz]
 ·by_cases D:HL/\wt≠[]
  ·have n1:¬(HK/\Bt<dp):=E;have b:¬HK:=aU
   obtain⟨a,y,rfl⟩:∃u x,wt=u++[x]:=⟨wt.dropLast,wt.getLast D.2,No⟩
   have C:atI (a.map W.str++[aJ y]) (-1)=bA y:=QbY;have G:ixN (eY a) (-1)=sO a.length:=Qlc (Fx _);have M:(a++[y]).isEmpty=false:=aY
   rw[M]at f
   by_cases P:Cm
   ·subst P;refine⟨lf,["or"],a++[("or":Str)],g.orr,?_⟩;simp[nS,nH]at f;simp[nS,nH,in2,b,D.1,d,tyW,C,f,G,Qz]
   ·refine⟨lf,["end"],a,g.endd P,?_⟩;simp[nS,nH]at f;simp[nS,nH,in2,b,D.1,d,tyW,C,P,f,Qz]
  ·have t1:∀σ:MSt,True:=λ_=>trivial
   have b2:¬HL\/wt.isEmpty=true:=by
    by_cases z:wt=[]
    ·right;simp[z]
    ·left;exact λq=>D (iI q z)
   by_cases r:13<c%16/\os≠[]/\0<lf
   ·have b:¬HK:=aU
    have F:¬HL:=aU
    have q:gK<os.length:=by
     have:=Df.mpr r.2.1;lia
    obtain⟨o,U,eo⟩:=Qbr (xs:=os) (i:=c/16%(os.length:Nat)) (CC q) (NM _ q);have m:os.isEmpty=false:=by simpa using r.2.1
    have S:0<os.length:=aU
    refine⟨lf-1,["do",o],wt,g.doo U r.2.2,?_⟩;have H:ixN 1 0=sO 0:=rfl;simp[nS,nH,in2,b,F,r.1,r.2.2,d,tyW,B,m,w,H,S,eo,Qz]
   ·obtain⟨l,N,p⟩:=Qhs Y Z hw O L;refine⟨lf,l,wt,g.pln N,?_⟩
    by_cases b:HK
    ·have F:¬Bt<dp:=λz=>E (iI b z);have j:¬HL:=aU
     have e:¬13<c%16:=aU
     simp[nS,nH,in2,b,F,j,e,d,tyW,p]
    ·by_cases j:HL
     ·have J:wt.isEmpty=true:=b2.resolve_left λz=>z j;have e:¬13<c%16:=aU
      rw[J]at f;simp[nS,nH]at f;simp[nS,nH,in2,b,j,e,d,tyW,f,p]
     ·by_cases e:13<c%16
      ·by_cases A:os=[]
       ·simp[nS,nH,in2,b,j,e,A,d,tyW,B,p];subst A;simp[B,p,d]
       ·have m:os.isEmpty=false:=cL A
        have T:¬0<lf:=λz=>r ⟨e,A,z⟩;simp[nS,nH,in2,b,j,e,T,d,tyW,B,m,w,p]
      ·simp[nS,nH,in2,b,j,e,d,tyW,p]
theorem Qii{m:FM}{args as:aH}{w:W}{us us':aH}{n:Nat}{g h:MH}(d:Wf 0 args=sO (as,[n]))(i:h[n]?=sO (.lst us))(c:Cf)(e:m as [Ap]=sO (w,.lst us'::g))(hw:u7)(a:Vj us'=true):zI0=sO (w,h.set n (.lst us')):=by
 have:=QgG (m:=m) (args:=args) (as:=as) (ns:=[n]) (os:=[Ap]) (os':=[.lst us']) (g:=g) (h:=h) (w:=w) (w':=w) d aF (by simp[Vi,QdY,i,c]) e rfl (by intro o f;rw[j2 f];show Cy a) (Qcp _ w hw);rw[this];simp[ZP]
theorem Qhn{nums:eX}(J:∀c∈nums,0<=c)(U:nums.length<=100){bs ws os:aD}(N:zh2)(hw:zh3)(v:MD)(r:MJ)(I:os.length<=5){dp:Int}(u:0<=dp)(M:dp<=2)(lf:Int)(t:0<=lf) :
  ∃(ls:d4) (a:Int),LnSt bs ws os dp lf ls [] a/\zL5<=nums.length+2*dp/\∀(h:MH) (n:Nat),h[n]?=sO (.lst [.int lf])->JM [.lst Bq,Jy bs,Jy ws,Jy os,.int dp,aG n] h=sO (.tup n0,h.set n (.lst [aL a])):=by
 have f:=JD (items:=nums.map W.int) (b:=ZK 8) (body:=XT) (λn B h=>∃(a:Int) (ls:d4) (d:aD) (m e:cH),B=nS (.lst Bq) bs ws os dp m e/\h=nH a ls d/\LnSt bs ws os dp lf ls d a/\ls.length=n)
  (nums.map W.int) 0 (nS (.lst Bq) bs ws os dp nO nO) (nH lf [] []) ⟨lf,[],[],nO,nO,rfl,rfl,QpV u t,rfl⟩ (by
   rintro j w C B h ⟨a,ls,d,m,e,rfl,rfl,i,E⟩
   rw[Nx]at C;show l8 c D C;have L:=cG D;have O:=i.wd;obtain⟨p,l,o,R,Q⟩:=Qmp (nu:=.lst Bq) (os:=os) N hw v r (dp:=dp) (lf:=a) (ls:=ls) (wt:=d) (J c (N0 D)) (x9:=e) bL bL i
   exact⟨_,rfl,_,_,dU Q,p,ls++[l],o,_,_,rfl,rfl,R,by simp;omega⟩)
 obtain⟨G,X,y,a,ls,d,m,e,rfl,rfl,i,E⟩:=f;rw[Nz,NU]at E;have O:=i.wd;have P:=QkD _ d rfl;refine⟨ls++cls d,a,LnSt.close _ rfl i,by rw[Nw];show rK,aP h n s⟩;have x:=QeJ (wt:=d) bL (h:=nH a ls d) (n:=2) rfl;generalize cls d=A at P x;have ei:∀h:MH,QP aE (nS (.lst Bq) bs ws os dp nO nO) h=sO (nums.map .int,nO,h):=d7;have z:ls.length+A.length<=sizeLine:=Nv (szN bL);refine Qii (as:=[.lst Bq,Jy bs,Jy ws,Jy os,.int dp,uT]) (us:=[.int lf]) (us':=[aL a]) (g:=[.lst n0,c7 d]) (by simp[Wf,Jy]) s aF ?_ aF aF
 have F:Zd gI (BO A) (nH a ls d)=sO (.lst (uC++A.map Qz),nH a ls d):=by
  unfold Zd;simp[lsW,loW,nH,z]
 simp only[nS,nH]at y ei x F;simp at y;simp[Kg,QN,JX,ei,y,x,F,z]
structure PgOk(bs ws:aD)(P:c8):Prop where
 nd:(P.map (·.1)).Nodup
 ne:P≠[]
 len:P.length<=5
 ok:∀k x,sH->∀l∈x.2,LineOk bs ws ((P.map (·.1)).drop (k+1)) l/\gE
noncomputable def tw(z:Sz):Int:=z.pl+z.wy-1
noncomputable def tQ(q:Q5):Int:=q.pl+q.wy-1
theorem Y9(d:Sd)(q:Q5)(l:Ln):tQ (XX d q l)=tQ q+(C3+pG):=by
 show q.pl+C3+(q.wy+pG)-1=q.pl+q.wy-1+_;omega
theorem Qo8{xs:aD}(l:xs.Nodup){y:Str}{k:Nat}(m:y∈xs.drop k):∃i,k<=i/\xs[i]?=sO y/\∀h:MH,Qa3 (.lst tO) [aJ y] h=sO (.int (i:Nat),h):=by
 show A5 j a m;rw[F9]at a;have b:=cG a;refine⟨k+j,AB,a,fX h⟩
 have n:(xs.map W.str).findIdx? (λz=>eqW z lE)=sO (k+j):=by
  rw[Ds];refine⟨cL b,?_,bQ i g⟩
  ·have:=(Nh.mp a).2;simp[eqW,this]
  ·have c:MS:=by exact EG g b
   simp only[List.getElem_map,eqW,YaK,beq_eq_false_iff_ne];intro z;have d:=(Nh.mp a).2;have:=(LD (h₀:=c) (h₁:=b) l).mp (z.trans d.symm);exact EU yY g
 unfold Qa3;have o:lsW h (.lst tO)=sO tO:=rfl;have d:drf h 40 lE=bA y:=rfl;simp only[o,Ni,d,KC h tO 40 X4 (Ng VC aA),n,Dp]
theorem QgK{P:c8}(a:(P.map (·.1)).Nodup){k i:Nat}{y:Pt}(d:k<i)(b:P[i]?=sO y):look (fO k) y.1=sO (szw (fO i) y.2):=by
 have c:((P.drop (k+1)).map (·.1)).Nodup:=by rw[FN];exact a.sublist (Yaz _ _)
 have:=QbQ (p:=P.drop (k+1)) (j:=i-(k+1)) (y:=y) c (by rw[F9,jo5];exact b);rw[this,OC,show k+1+(i-(k+1)+1)=i+1 by omega]
theorem QkM{P:c8}(c:(P.map (·.1)).Nodup){k:Nat}{nm:Str}(h:nm∈(P.map (·.1)).drop (k+1)):∃i y,k<i/\P[i]?=sO y/\y.1=nm/\ZG (fO k) (["do",nm]:Ln)=szw (fO i) y.2:=by
 show A5 j b h;rw[F9,Nx]at b;show l8 y a b;refine⟨k+1+j,y,fZ,a,rfl,?_⟩;have e:ZG (fO k) (zj5:Ln)=(look (fO k) y.1).getD tR:=rfl;rw[e,QgK c bL a];rfl
theorem X5{d:Sd}{l:Ln}(h1:zj2)(a:gE):ZG d l=tR:=by unfold ZG;rw[h1,a];rfl
theorem Qg5{bs ws la:aD}{l:Ln}(h:o0)(hd:iO):∃nm∈la,l=(["do",nm]:Ln):=by
 cases h with
 |plain h=>rw[Qc0 h]at hd;cases hd
 |«do» h=>exact⟨_,h,rfl⟩
 |blk h=>rcases h with rfl|rfl|rfl|rfl<;>exact absurd hd aA
 |back h=>exact absurd (show(SG==SX)=true from hd) aA
theorem QcJ{bs ws:aD}{P:c8}(g:wF):∀(d k:Nat) (x:Pt),sH->5-k<=d->∀h:MH,Z3 d [Zb P,aL k] h=sO (.int (tw (szw (fO k) x.2)),h)
 |0,k,x,h1,T=>by
  have:=g.len;have:=cG h1;omega
 | d+1,k,x,u,T=>by
  have S:=cG u;have R:=g.len;have N:=λM y a b=>QcJ g d M y a b;have U:=Uh u
  have m:=JD (items:=zj4) (b:=ZK 4) (body:=VD (Z3 d)) (λj t h=>∃(o:cH),t=[bU P,aS k,sO (.lst ((P.map (·.1)).map .str)),sO (.int (tQ (JU (fO k) qz zR9))),o]/\h=[])
   (CP x) 0 [bU P,aS k,sO (.lst ((P.map (·.1)).map .str)),sO uE,nO] [] ⟨nO,rfl,rfl⟩ (by
    show zu9 I t o;show l8 l H I;rw[NU]at *;have Q:jm5:=zI H
    obtain⟨n,B⟩:=g.ok k x u l (N0 H);rw[Q,Zl,Y9];generalize tQ (JU (fO k) qz zR9)=v;cases c:Kw l with
    | true=>
     obtain⟨nm,A,rfl⟩:=Qg5 n c;obtain⟨i,i1,O,ei⟩:=Qo8 g.nd A;obtain⟨y,G,rfl⟩:=Nf.mp (by rwa[Nx]at O);have D:=N i y G bL
     have e:ZG (fO k) (zj5:Ln)=szw (fO i) y.2:=by
      show(look (fO k) y.1).getD tR=_;rw[QgK g.nd bL G];rfl
     rw[e];refine⟨[bU P,aS k,sO (.lst ((P.map (·.1)).map .str)),aS v,sO (Qz zj5)],rfl,[bU P,aS k,sO (.lst ((P.map (·.1)).map .str)),sO (.int (v+((szw (fO i) y.2).pl+(szw (fO i) y.2).wy))),sO (Qz zj5)],[],j0,_,rfl,rfl⟩;have C:v+1+tw (szw (fO i) y.2)=v+((szw (fO i) y.2).pl+(szw (fO i) y.2).wy):=by unfold tw;omega
     rw[<-C];simp only[El]at ei;simp[Qz,ei,D,tyW]
    |false=>
     rw[X5 c B];obtain⟨y,r,rfl⟩:=Qbq n;have X:y≠"do":=by intro z;rw[show Kw (y::r)=(y==zj3)from rfl,z]at c;simp at c
     refine⟨[bU P,aS k,sO (.lst ((P.map (·.1)).map .str)),aS v,sO (Qz (y::r))],rfl,[bU P,aS k,sO (.lst ((P.map (·.1)).map .str)),sO (.int (v+1)),sO (Qz (y::r))],[],j0,_,rfl,rfl⟩
     simp[Qz,X])
  show zG0 L h' s o m;have D:tQ (JU (fO k) qz x.2)=tw (szw (fO k) x.2):=rfl;rw[D]at s;generalize tw (szw (fO k) x.2)=v at s;refine λh=>QC (g:=[]) aF ?_ aF
  have F:Zc Jd (QP aE) [nO] d9 KS (Qi wIx aE bC) [bU P,aS k,nO,nO,nO] []=sO (.lst ((P.map (·.1)).map .str),[]):=by
   let f:W->W:=λw=>match w with|.tup (a::_)=>a|w=>w
   have:=Vo (fin:=Jd) (mi:=QP aE) (cp:=[nO]) (me:=Qi wIx aE bC) (σ:=[bU P,aS k,nO,nO,nO]) (caps:=[]) (h:=[]) (items:=lH P) f rfl cN (by
    intro w hw;show HJ p
    rfl) (by rw[Nz];exact Nv (szN (by have:=g.len;exact Nv (Nk this aA))))
   rw[this];show sO (W.lst ((P.map Zm).map f),[])=_;rw[El,El];rfl
  have ei:QP (Qi wIx (Qi wIx aE aK) aM) [bU P,aS k,sO (.lst ((P.map (·.1)).map .str)),sO uE,nO] []=sO (zj4,nO,[]):=by
   have:(Qi wIx (Qi wIx aE aK) aM) [bU P,aS k,sO (.lst ((P.map (·.1)).map .str)),sO uE,nO] []=sO (z6 x,[]):=by simp[Zb,U,Zm]
   unfold QP;show mD
  have E:JX (QP (Qi wIx (Qi wIx aE aK) aM)) EQ (VD (Z3 d)) [bU P,aS k,sO (.lst ((P.map (·.1)).map .str)),sO uE,nO] []=sO (.nx [bU P,aS k,sO (.lst ((P.map (·.1)).map .str)),aS v,o] []):=by
   show sX s
  unfold Ke;generalize JX (QP (Qi wIx (Qi wIx aE aK) aM)) EQ (VD (Z3 d))=fo at E;generalize Zc Jd (QP aE) [nO] d9 KS (Qi wIx aE bC)=co at F;generalize(P.map (·.1)).map W.str=NN at F E;simp[QN,F,E]
open Classical in
noncomputable def mx(ns:eX)(k:Nat):Int:=if h:k<=1000 then(Gy ns k h).choose else 0
theorem Qbm(ns:eX)(k:Nat):0<=mx ns k:=by
 unfold mx;split
 ·rename_i h;exact(Gy ns k h).choose_spec.1
 ·exact Lf _
theorem QiD(ns:eX){k:Nat}(a:k<=1000)(h:MH):Qw [scr ns,aL k] h=sO (zO3,h):=by
 unfold mx;rw[dif_pos a];exact(Gy ns k a).choose_spec.2 h
theorem Qcd{ms:MA}{cp:lU}{me:ME}{σ caps:MSt}{h:MH}{m:Nat}(f:Nat->W)(ei:CV=sO ([.int uL],h))(d:Sy)(a:m<=1000)(c:∀k,k<m->me (sO (.int cT)::caps) h=xD k) :
  Zc Jd (KA ms) cp d9 KS me σ h=sO (.lst jz5,h):=by
 let g:W->W:=λw=>match w with|aL i=>f i.toNat|w=>w
 have:=Vo (fin:=Jd) (mi:=KA ms) (cp:=cp) (me:=me) (σ:=σ) (h:=h) (items:=Zj 0 m) g (Kn ei (Nk a aA)) d (by
  show zI6;show l0 k b;show jm3) (by rw[Xt];exact Nv (szN (Nv (Nk a aA))))
 rw[this];show jl0;unfold Zj;rw[El];congr 3;apply DK;intro k _;simp[g]
theorem Qln{c:Int}{l:eX}(d:l.length=8)(P:Int->Prop)(b:∀x∈l,P x):∃m,P m/\atI (l.map W.int) (c%8)=aS m:=by
 have h:0<=c%8:=NW _ aA;have g:c%8<8:=NM _ aA;obtain⟨x,_,a,e⟩:=Qo7 (xs:=l) (f:=W.int) (P:=P) h (tZ d g) b;exact⟨x,a,e⟩
noncomputable abbrev gP(ns:eX)(hd:W)(m:Nat)(bs ws xs:aD)(ct:Nat)(x8 x9 a x11 x12 x13:cH):MSt:=[hF,tW,sO hd,aS m,Cj,Pi,sO CM,sO (.int ct),x8,x9,a,x11,x12,x13]
theorem QmJ{ns:eX}{hd:W}{m ct k:Nat}{bs ws xs:aD}(y:1<=m)(n:m<=5)(d:1<=ct)(a:ct<=60){x8 x9 x11 x12 x13:cH}{h:MH} :
  ∃nu:eX,nu.length=(List.range ct).countP (λ(j:Nat)=>decide (kT*m/ct=k))/\(∀c∈nu,0<=c)/\Zc Jd (KA (Qb dS Ql)) Hq d9 (QB (Qi wEq (Qi V8 (Qi JV aE dF) cB) aV)) (QD 2 Qw (Qb aK (Qb (Qi Zd iT aE) Ql))) (gP ns hd m bs ws xs ct x8 x9 (bG k) x11 x12 x13) h=sO (.lst (nu.map .int),h):=by
 let f:W->W:=λw=>match w with|aL j=>.int (mx ns (4+j.toNat))|w=>w
 let p:rX:=λw=>match w with|aL j=>j*m/ct==cT|_=>false
 have:=UC (fin:=Jd) (mi:=KA (Qb dS Ql)) (cp:=Hq) (mt:=QB (Qi wEq (Qi V8 (Qi JV aE dF) cB) aV)) (me:=QD 2 Qw (Qb aK (Qb (Qi Zd iT aE) Ql))) (σ:=gP ns hd m bs ws xs ct x8 x9 (bG k) x11 x12 x13) (caps:=[hF,aS k,sO (.int ct),aS m]) (h:=h) (items:=Zj 0 ct) f p (Kn rfl (Nk a aA)) cN (by
   show zI6;show l0 j b;have l:(yD:Int)<m:=aU
   have i:uL<18446744073709551616:=aU
   have t:gK<ct:=aU
   have s:(ct:Int)<1073741824:=aU
   have r:0<ct:=by exact d
   simp[p,l,i,t,s,r]) (by
   intro w hw _;unfold Zj at hw;show l0 j b;rw[Ek]at b;have e:=QiD ns (k:=4+j) aQ h;push_cast at e
   simp[f,e]) (by rw[Xt];exact Nv (szN (Nv (Nk a aA))))
 refine⟨((Zj 0 ct).filter p).map (λw=>match w with|aL j=>mx ns (4+j.toNat)|_=>0),?_,bQ c o,?_⟩
 ·rw[Nz,<-List.countP_eq_length_filter];unfold Zj;rw[List.countP_map];apply List.countP_congr;intro j _;simp[p]
 ·show M9 w o;cases w<;>first|exact Qbm _ _|exact Lf _
 ·rw[this]
  have e:(((Zj 0 ct).filter p).map (λw=>match w with|aL j=>mx ns (4+j.toNat)|_=>0)).map W.int=((Zj 0 ct).filter p).map f:=by
   rw[El];apply DK;intro w hw;have hw:=(FP.mp hw).1;unfold Zj at hw;show l0 j b;rfl
  rw[e];rfl
noncomputable def nk(m ct k:Nat):Nat:=(List.range ct).countP (λ(j:Nat)=>decide (kT*m/ct=k))
noncomputable def dcs(P:c8):Nat:=(P.map λx=>xH).sum
structure PtsOk(bs ws xs:aD)(D lf0:Int)(m ct n:Nat)(P:c8)(lf:Int):Prop where
 nm:P.map (·.1)=xs.take n
 len:P.length=n
 ok:∀k x,sH->∀l∈x.2,LineOk bs ws (xs.drop (k+1)) l/\gE
 bal:∀x∈P,Sf
 dp:∀x∈P,zz9
 ln:∀k x,sH->(iW:Int)<=nk m ct k+2*D
 dn:(dcs P:Int)+lf=lf0
 lp:0<=lf
theorem Qg0{ns:eX}{hd:W}{m ct k:Nat}{bs ws xs:aD}(Q:1<=m)(B:m<=5)(D:1<=ct)(p:ct<=60)(v:xs.length=m)(R:k<m)(S:zh2)(E:MD)(hw:zh3)(A:MJ){lf j:Int}{P:c8}(g:PtsOk bs ws xs (1+AT) j m ct k P lf){x11:cH} :
  ∃(b:Int) (pt:Pt) (s:cH),PtsOk bs ws xs (1+AT) j m ct (k+1) (P++[pt]) b/\ZM (gP ns hd m bs ws xs ct lZ (sO gI) (bG k) x11 nO nO) [BC,.lst (g9 P)]=sO (.nx (gP ns hd m bs ws xs ct lZ (sO gI) (bG k) s nO nO) [.lst [aL b],.lst ((P++[pt]).map Zm)]):=by
 obtain⟨G,H,N,t⟩:=QmJ (ns:=ns) (hd:=hd) (k:=k) (bs:=bs) (ws:=ws) (xs:=xs) Q B D p (x8:=cE) (x9:=sO gI) (x11:=x11) (x12:=nO) (x13:=nO) (h:=[BC,.lst (g9 P)]);obtain⟨d,e⟩:∃d:Int,d=1+AT:=cN
 have o:0<=d/\d<=2:=by rw[e];split<;>exact⟨a',a'⟩
 rw[<-e]at g ⊢;obtain⟨f,b,n,I,O⟩:=Qhn (nums:=G) N (by rw[H];exact Ng OD (by simp;omega)) (os:=xs.drop (k+1)) S hw E A (by rw[D3];omega) (dp:=d) o.1 o.2 lf g.lp;have w:xs[k]?=sO xs[k]:=Nl (Np R (dX v));generalize xs[k]=x at w
 have last:∀i y,(P++[(x,f)])[i]?=sO y->(P[i]?=sO y)\/(i=k/\y=(x,f)):=λi y a=>by
  rcases D6 i P.length with z|z
  ·rw[Ew z]at a;exact dU a
  ·have:i=k:=by
    have:=cG a;show k7;have:=g.len;omega
   subst this;rw[Dv z,g.len]at a;simp at a;exact .inr ⟨rfl,a.symm⟩
 refine⟨b,(x,f),sO (.lst (G.map .int)),⟨?_,by simp[g.len],λi y a l J=>?_,bQ y u,bQ y u,aP i y a,?_,n.lp⟩,?_⟩
 ·rw[Ed,g.nm,List.take_succ,w];rfl
 ·show jB5
  ·exact g.ok i y z l J
  ·exact n.ok l J
 ·show tX u z
  ·exact g.bal y z
  ·rw[j2 z];exact n.kr
 ·show tX u z
  ·exact g.dp y z
  ·rw[j2 z];exact n.dp
 ·show jB5
  ·exact g.ln i y z
  ·rw[H]at I;exact I
 ·have h1:=g.dn;have h2:=n.dn;have T:dcs (P++[(x,f)])=dcs P+dcn f:=by simp[dcs]
  rw[T];show rK
 ·have U:=O [BC,.lst (g9 P)] 0 rfl;have X:atI M8 cT=bA x:=zN9 w
  have r:Y3 M8 (sO (cT+1)) nO=(xs.drop (k+1)).map .str:=by
   have:=Xs M8 (k+1);push_cast at this;rw[this,FN]
  have z:P.length<sizeLine:=szN (by have:=g.len;lia);unfold ZM;generalize Zc Jd (KA (Qb dS Ql)) Hq d9 (QB (Qi wEq (Qi V8 (Qi JV aE dF) cB) aV)) (QD 2 Qw (Qb aK (Qb (Qi Zd iT aE) Ql)))=co at t;simp only[gP]at t
  have F:∀h,wSl CM (sO (cT+1)) nO h=sO (Jy (xs.drop (k+1)),h):=λh=>by
   show sO (W.lst (Y3 M8 (sO (cT+1)) nO),h)=_;rw[r];rfl
  have a:eS+AT=d:=e.symm
  have C:eS+(if m<4 then 1 else 0)=d:=by
   rw[<-a]
   by_cases c:m<4
   ·rw[bW c,if_pos aQ]
   ·rw[cR c,if_neg aQ]
  simp[gP,t,F,Qg9,a,C,U,X,z,tyW,Zm]
section
variable{d:Sd}{ls:d4}
theorem Vw{a:Type}{P:a->Prop}{L:g8}{l:a}(h:∀y∈L++[l],P y):(∀y∈L,P y)/\P l:=⟨λy b=>h y (Ee _ b),h l aF⟩
theorem Qe9{L:d4}{l:Ln}(h:iO):dcn uM=dcn L+1:=by rw[Gp,bW h]
theorem Qgz{L:d4}{l:Ln}(h:zj2):dcn uM=dcn L:=by rw[Gp,h];rfl
theorem KI(d:Sd)(q:Q5)(l:Ln):(XX d q l).wy=q.wy+pG:=rfl
theorem Ym(d:Sd)(q:Q5)(l:Ln):(XX d q l).pl=q.pl+C3:=rfl
theorem VA(d:Sd)(q:Q5)(l:Ln):(XX d q l).dp=max q.dp (q.lv+zZ+(ZG d l).dp):=rfl
theorem Xj(d:Sd)(q:Q5)(l:Ln):(XX d q l).lv=q.lv+zZ:=rfl
theorem Qb0(d:Sd)(q:Q5)(l:Ln):(XX d q l).bk=q.bk+(ZG d l).bk:=rfl
theorem QeN:(∀l∈ls,gE/\(iO->1<=pG))->eS+dcn ls<=yX:=by
 refine XW (motive:=λls=>(∀l∈ls,gE/\(iO->1<=pG))->eS+dcn ls<=yX) (λ_=>by show eS+l'<=1;decide) Bp ls;show Bv f e b a;rw[Zl,KI];cases c:Kw l with
 |true=>have:=b c;rw[Qe9 c];show rK
 |false=>rw[Qgz c,X5 c e];show _<=_+gK;omega
theorem Qgb:(∀l∈ls,gE/\(iO->0<=C3))->gK<=zK8:=by
 refine XW (motive:=λls=>(∀l∈ls,gE/\(iO->0<=C3))->gK<=zK8) (λ_=>Lf 0) Bp ls;show Bv f e b a;rw[Zl,Ym];cases c:Kw l with
 |true=>have:=b c;omega
 |false=>rw[X5 c e];show _<=_+eS;omega
theorem QeF{M:Int}:(∀l∈ls,gE/\(iO->pG<=M))->yX<=1+dcn ls*M:=by
 refine XW (motive:=λls=>(∀l∈ls,gE/\(iO->pG<=M))->yX<=1+dcn ls*M) (λ_=>by show eS<=1+l'*M;simp) Bp ls;show Bv f e b a;rw[Zl,KI];cases c:Kw l with
 |true=>have:=b c;show jt7
 |false=>rw[Qgz c,X5 c e];show _+gK<=_;omega
theorem Qid{B:Int}:(∀l∈ls,gE/\(iO->C4<=B*pG))->Bu<=ls.length+B*(yX-1):=by
 refine XW (motive:=λls=>(∀l∈ls,gE/\(iO->C4<=B*pG))->Bu<=ls.length+B*(yX-1)) (λ_=>by show gK+1-1<=l'+B*(1-1);simp) (λL l b h=>?_) ls;show Bv i g f b;rw[Zl,Y9,KI,Nw,NX];generalize(JU d qz L).wy=a at *;cases c:Kw l with
 |true=>
  have e:=f c;unfold tw at e;generalize pG=w at *;have:B*(a+w-1)=B*(a-1)+B*w:=by rw[<-Int.mul_add];congr 1;omega
  show rK
 |false=>rw[X5 c g];show _+(eS+0)<=_+B*(a+0-1);rw[show a+0-1=a-1 by omega];show rK
theorem W5{E:Int}:(∀l∈ls,gE/\(iO->C4<=E))->Bu<=ls.length+dcn ls*E:=by
 refine XW (motive:=λls=>(∀l∈ls,gE/\(iO->C4<=E))->Bu<=ls.length+dcn ls*E) (λ_=>by show gK+1-1<=l'+l'*E;simp) Bp ls;show Bv g f e a;rw[Zl,Y9,Nw,NX];cases c:Kw l with
 |true=>
  have b:=e c;unfold tw at b;show jt7
 |false=>rw[Qgz c,X5 c f];show _+(eS+0)<=_;show rK
theorem QhO:(∀l∈ls,gE/\(iO->0<=C4))->zL5<=Bu:=by
 refine XW (motive:=λls=>(∀l∈ls,gE/\(iO->0<=C4))->zL5<=Bu) (λ_=>by show l'<=0+1-1;decide) Bp ls;show Bv g f e a;rw[Zl,Y9,Nw,NX];cases c:Kw l with
 |true=>
  have b:=e c;unfold tw at b;show rK
 |false=>rw[X5 c f];show _<=_+(eS+0);show rK
theorem QfM{E:Int}(f:0<=E):zT6:=by
 refine XW (motive:=λls=>zT6) (λ_=>⟨rfl,by show gK<=0+E;omega⟩) Bp ls;obtain⟨c,g⟩:=Vw h;obtain⟨b,e⟩:=a c;rw[Zl,Zl,VA,VA,Xj,Xj,K4,b];refine⟨rfl,?_⟩;omega
#print "-"
section
variable{bs ws:aD}{P:c8}
noncomputable abbrev Zk(P:c8)(k:Nat)(x:Pt):Sz:=szw (fO k) x.2
theorem Ye(g:wF){k:Nat}{x:Pt}(a:sH){l:Ln}(c:l∈x.2)(hd:iO):∃i y,k<i/\P[i]?=sO y/\ZG (fO k) l=Zk P i y:=by
 obtain⟨nm,b,rfl⟩:=Qg5 (g.ok k x a l c).1 hd;obtain⟨i,y,f,e,_,d⟩:=QkM g.nd b;exact⟨i,y,f,e,d⟩
theorem QbH(g:wF):∀(n k:Nat) (x:Pt),zc9->sH->eS+xH<=zS0/\0<=(Zk P k x).pl/\(iW:Int)<=tw (Zk P k x)
 |0,k,x,h,d=>by have:=cG d;omega
 | n+1,k,x,h,d=>by
  have m:=cG d
  have f:∀l∈x.2,iO->1<=(ZG (fO k) l).wy/\0<=(ZG (fO k) l).pl:=λl c hd=>by
   obtain⟨i,y,p,j,e⟩:=Ye g d c hd;rw[e];have o:=cG j;obtain⟨a,b,_⟩:=QbH g n i y bL j;exact⟨fZ,b⟩
  refine⟨QeN λl c=>⟨BT d c,λhd=>(f l c hd).1⟩,Qgb λl c=>⟨BT d c,λhd=>(f l c hd).2⟩,QhO λl c=>⟨BT d c,λhd=>?_⟩⟩;have:=f l c hd;unfold tw;omega
noncomputable def fD(n:Nat):Int:=if n=0 then 1 else if n=1 then 2 else if n=2 then 3 else 5
theorem QeG{a b:Nat}(h:a<=b):fD a<=fD b:=by unfold fD;split<;>split<;>(try split)<;>(try split)<;>omega
theorem QlF:∀d<4,∀e<4,d+e<=3->eS+d*fD e<=fD (d+e):=a'
theorem GC{k:Nat}{x:Pt}(a:sH):R9 P k=xH+dcs vY:=by
 have b:=cG a
 have e:P.drop k=x::P.drop (k+1):=by
  rw[EV b];congr 1;exact(Nh.mp a).2
 rw[e];simp[dcs]
theorem QcB(n:Nat)(Q:c8):R9 Q n<=dcs Q:=by
 have:dcs Q=dcs (Q.take n)+R9 Q n:=by
  unfold dcs;rw[<-List.sum_append,<-Ed,DS]
 omega
theorem QpO(g:wF):∀(n k:Nat) (x:Pt),zc9->sH->R9 P k<=3->zS0<=fD (dcs (P.drop k)):=by
 intro n
 induction n with
 |zero=>
  intro k x h a _;have:=cG a;omega
 | succ n j=>
  intro k x h a s;have p:=cG a;have e:=GC a
  have:=QeF (d:=sd vY) (ls:=x.2) (M:=fD (dcs vY)) λl c=>⟨BT a c,λhd=>by
   obtain⟨i,y,t,f,m⟩:=Ye g a c hd;rw[m];have r:=cG f
   have b:R9 P i<=dcs vY:=by
    have:=QcB (i-(k+1)) vY;rwa[OC,jo5]at this
   exact F8 (j i y bL f bL) (QeG b)⟩
  rw[e];exact F8 this (QlF _ bL _ bL bL)
theorem QtQ(g:wF){B:Int}(f:∀(i:Nat) (y:Pt),P[i]?=sO y->(y.2.length:Int)<=B):∀(n k:Nat) (x:Pt),zc9->sH->tw (Zk P k x)<=B*zS0:=by
 intro n
 induction n with
 |zero=>
  intro k x h a;have:=cG a;omega
 | succ n e=>
  intro k x h a;have p:=cG a
  have:=Qid (d:=sd vY) (ls:=x.2) (B:=B) λl b=>⟨BT a b,λhd=>by
   obtain⟨i,y,t,c,j⟩:=Ye g a b hd;rw[j];have r:=cG c
   exact e i y bL c⟩
  have s:=f k x a;show tQ (JU (fO k) qz x.2)<=B*(JU (fO k) qz x.2).wy;generalize(JU (fO k) qz x.2).wy=m at *;rw[Int.mul_sub]at this;omega
theorem Qqr(g:wF){D:Int}(h0:0<=D)(o:∀x∈P,zz9):∀(n k:Nat) (x:Pt),zc9->sH->(Zk P k x).dp<=D*(z7-k):=by
 intro n
 induction n with
 |zero=>
  intro k x h a;have:=cG a;omega
 | succ n m=>
  intro k x h a;have t:=cG a;have f:0<=D*(z7-(k+1)):=Int.mul_nonneg h0 bL
  have:=(QfM (d:=sd vY) (ls:=x.2) (E:=D*(z7-(k+1))) f λl b=>by
   cases c:Kw l with
   |false=>rw[X5 c (BT a b)];exact f
   |true=>
    obtain⟨i,y,p,j,r⟩:=Ye g a b c;rw[r];have u:=cG j
    refine F8 (m i y bL j) (Int.mul_le_mul_of_nonneg_left bL h0)).2
  have p:=o x (N0 a);show(JU (fO k) qz x.2).dp<=_
  have e:D*(z7-k)=D+D*(z7-(k+1)):=by
   rw[show(z7-k)=1+(z7-(k+1)) by omega,Int.mul_add,Int.mul_one]
  omega
theorem QjQ{b:Type}{p q:b->Bool}(h:∀a,¬(p a=true/\q a=true)):∀l:gN b,l.countP p+l.countP q<=l.length
 |[]=>aY
 |a::l=>by
  have c:=QjQ h l;have:=h a;rw[LN,LN,N6];cases e:p a<;>cases d:q a<;>simp_all<;>omega
theorem nk2{m ct c:Nat}(b:0<c):nk m ct 0+nk m ct c<=ct:=by
 have:=QjQ (p:=λ(j:Nat)=>decide (kT*m/ct=An)) (q:=λ(j:Nat)=>decide (kT*m/ct=c)) (λa z=>by simp at z;omega) (List.range ct);rw[DW]at this;exact this
theorem nk1{m ct c:Nat}:nk m ct c<=ct:=by
 unfold nk;exact Ng OD aF
theorem nk6:∀m<6,∀ct<13,∀k<5,2<=m->nk m ct k<=6:=fW
theorem Qks(g:wF){D f lf:Int}{m ct:Nat}{xs:aD}(h:PtsOk bs ws xs D f m ct m P lf)(R:0<=D)(hD:D<=2)(Q:ct<=40)(r:12<ct->f=1)(h3:f<=3){x:Pt}(e:P[0]?=sO x):(Zk P 0 x).pl<=48/\zd0<=500/\zS1<=24:=by
 obtain⟨b1,b2,b3⟩:=QbH g _ 0 x cO e;have O:=h.dn;have J:=h.lp;have j:dcs P<=3:=fZ
 have w:=QpO g _ 0 x cO e (cD j);have Y:zS1<=5:=F8 w (F8 (QeG (b:=3) (cD j)) aA);have M:=h.ln 0 x e;have Z:=nk1 (m:=m) (ct:=ct) (c:=0);have S:=GC e;rw[OB]at S;have s:zd0=(Zk P 0 x).pl+zS1-1:=rfl
 by_cases A:xH=0
 ·have:=W5 (d:=sd zL6) (ls:=x.2) (E:=0) λl a=>⟨(g.ok 0 x e l a).2,λhd=>by
   have:0<xH:=IY.mpr ⟨l,a,hd⟩
   omega⟩
  have:zd0<=iW+xH*0:=this;rw[A]at this;show k7;omega
 ·by_cases U:12<ct
  ·have L:=r U;have p:xH=1:=fZ
   have C:dcs zL6=0:=fZ
   have:=W5 (d:=sd zL6) (ls:=x.2) (E:=(44:Int)-nk m ct 0) λl a=>⟨(g.ok 0 x e l a).2,λhd=>by
    obtain⟨i,y,z,n,T⟩:=Ye g e a hd;rw[T]
    have o:dcn y.2=0:=by
     have a1:=GC n;have X:=QcB (i-1) (P.drop 1);rw[OC,show 1+(i-1)=i by omega]at X;rw[NU]at C;omega
    have t:=W5 (d:=sd (P.drop (i+1))) (ls:=y.2) (E:=0) λl a=>⟨(g.ok i y n l a).2,λhd=>by
     have:0<dcn y.2:=IY.mpr ⟨l,a,hd⟩
     omega⟩
    have t:tw (Zk P i y)<=y.2.length+dcn y.2*0:=t;show rM o t;have I:=h.ln i y n;have:=nk2 (m:=m) (ct:=ct) z
    omega⟩
   have:zd0<=iW+xH*((44:Int)-nk m ct 0):=this;rw[p]at this;show k7;omega
  ·have H:2<=P.length:=by
    obtain⟨l,a,hd⟩:=IY.mp (Yai A);obtain⟨i,y,z,n,_⟩:=Ye g e a hd;have N:=cG n;omega
   have F:=h.len;have G:=g.len
   have t:=QtQ g (B:=10) (λi y v=>by
    have N:=cG v;have:=h.ln i y v;have:=nk6 m bL ct bL i bL bL
    omega) _ 0 x cO e
   omega
#print "-"
theorem Ql4{ls:Ln}{n:Nat}:(List.replicate n [Qz ls]).flatten=(List.replicate n ls).map Qz:=by
 induction n with
 |zero=>rfl
 |succ n a=>rw[Eu,DH,a,Eu,NA];rfl
structure GP(bs ws:aD)(R:c8):Prop where
 g:PgOk bs ws R
 bal:∀x∈R,Sf
 ln:∀x∈R,iW<=48
 dp:∃D:Int,0<=D/\D<=6/\(∀x∈R,zz9)/\D*R.length<=6
 fl:∀x,R[0]?=sO x->(Zk R 0 x).pl<=48/\tw (Zk R 0 x)<=500/\(Zk R 0 x).wy<=24
 hb:∀x∈bs,Nm x
 hw:∀x∈ws,Nm x
 hn:∀x∈R,uV
 b5:MD
 w5:MJ
theorem QlM{y:Str}:∀(n:Nat) (q:Q5),q.lv=0->q.dp=0->(JU [] q (List.replicate n jQ)).lv=0/\(JU [] q (List.replicate n jQ)).dp=0:=by
 intro n
 induction n with
 |zero=>
  intro q a b;show lL a b
 |succ n d=>
  intro q a b;rw[Eu];show(JU [] (XX [] q jQ) _).lv=0/\_;have c:ch (cdL jQ)=0:=by show ch (cd "do")=0;rw[jt6];rfl
  exact d _ (by rw[Xj,a,c];rfl) (by rw[VA,a,b,c,K4];rfl)
theorem QoT{d:Sd}:∀(ls:d4) (q a:Q5),q.lv=a.lv->q.dp=a.dp->(JU d q ls).dp=(JU d a ls).dp:=by
 intro ls
 induction ls with
 |nil=>
  intro q a _ h;exact h
 |cons l ls c=>
  intro q a b e;exact c _ _ (by rw[Xj,Xj,b]) (by rw[VA,VA,b,e])
theorem Qm9{y:Str}{ls:uJ}:∀n:Nat,YD ((List.replicate n jQ).map cdL++ls) []=YD ls []:=by
 intro n
 induction n with
 |zero=>
  exact rfl
 |succ n a=>
  rw[Eu,NA,LJ];show(kst (cdL jQ) []).bind _=_;rw[show cdL jQ=.ot by show cd "do"=.ot;decide];exact a
theorem QdE(ns:eX)(hl:zQ3):∃(bs ws:aD) (P:c8),CQ P/\∀h:MH,Z8 [scr ns,.int 40] h=sO (Zb P,h):=by
 have J:Zc Jd (KA (Qb iT Ql)) PC d9 KS (QD 2 Qw (Qb aK (Qb aE Ql))) [hF,tW,nO,nO,nO,nO,nO,nO,nO,nO,nO,nO,nO,nO] []=sO (zW1,[]):=by
  have:=Qcd (ms:=Qb iT Ql) (cp:=PC) (me:=QD 2 Qw (Qb aK (Qb aE Ql))) (σ:=[hF,tW,nO,nO,nO,nO,nO,nO,nO,nO,nO,nO,nO,nO]) (caps:=[hF]) (h:=[]) (m:=4) (λk=>zO3) rfl cN aA (λk hk=>by
   have e:=QiD ns (k:=k) (Nv (EG hk aA)) []
   simp[e])
  show mD
 have g0:=Qbm ns 0;have g1:=Qbm ns 1;have g2:=Qbm ns 2;have g3:=Qbm ns 3;obtain⟨m',bm,em⟩:=Qln (c:=mx ns 0) (l:=[1,1,2,2,3,3,2,5]) rfl zD5 aF;obtain⟨m,rfl⟩:∃m:Nat,m'=m:=⟨m'.toNat,aU⟩
 obtain⟨b',bo,eb⟩:=Qln (c:=mx ns 1) (l:=[1,2,2,3,3,2,3,5]) rfl zD5 aF;obtain⟨b,rfl⟩:∃m:Nat,b'=m:=⟨b'.toNat,aU⟩
 obtain⟨w',bh,ew⟩:=Qln (c:=mx ns 2) (l:=[1,2,2,3,1,2,3,5]) rfl zD5 aF;obtain⟨w,rfl⟩:∃m:Nat,w'=m:=⟨w'.toNat,aU⟩
 obtain⟨bs,b1,⟨_,b2⟩,b3⟩:=Gn (n:=mx ns 1/8) (Int.ediv_nonneg g1 aA) (m:=b) aQ;obtain⟨ws,w1,⟨_,w2⟩,w3⟩:=Gn (n:=mx ns 2/8) (Int.ediv_nonneg g2 aA) (m:=w) aQ;obtain⟨H,x1,⟨x2,x4⟩,x3⟩:=Gn (n:=mx ns 3) g3 (m:=m) aQ;obtain⟨M,ao⟩:∃c:Int,c=(if(3+zh5)>zW7 then(3+zh5)else zW7):=cN
 have q0:0<=zh5:=NW _ aA;have q1:zh5<6:=NM _ aA;have bn:1<=M/\M<=40:=by rw[ao];split<;>split<;>lia
 obtain⟨ct,rfl⟩:∃m:Nat,M=m:=⟨M.toNat,aU⟩
 obtain⟨lf,am,as,N,ar⟩:∃lf:Int,atI [W.int 3,.int 1] (if(12:Int)<ct then 1 else 0)=sO (.int lf)/\(12<ct->lf=1)/\lf<=3/\0<=lf:=by
  by_cases c:(12:Int)<ct
  ·exact⟨1,by rw[bW c];rfl,d7,a',a'⟩
  ·exact⟨3,by rw[cR c];rfl,λz=>absurd bL c,a',a'⟩
 obtain⟨D,eD⟩:∃D:Int,D=1+AT:=cN
 have X:0<=D/\D<=2/\D*m<=6:=by
  rw[eD]
  by_cases c:uL<4
  ·rw[bW c];omega
  ·rw[cR c];omega
 have ak:atI [W.int 3,.int 1] (if 12<ct then 1 else 0)=sO (.int lf):=by
  rw[<-am]
  by_cases c:12<ct
  ·rw[bW c,if_pos aQ]
  ·rw[cR c,if_neg aQ]
 let hd:W:=zW1
 have aa:=JD (items:=Zj 0 m) (b:=ZK 10) (body:=ZM) (λk σ h=>∃(o:Int) (P:c8) (G A:cH),σ=gP ns hd m bs ws H ct lZ (sO gI) G A nO nO/\h=[.lst [aL o],.lst (g9 P)]/\PtsOk bs ws H (1+AT) lf m ct k P o)
  (Zj 0 m) 0 (gP ns hd m bs ws H ct lZ (sO gI) nO nO nO nO) [BC,bN] ⟨lf,[],nO,nO,rfl,rfl,⟨aY,rfl,aY,aY,aY,aY,by simp[dcs],ar⟩⟩ (by
   rintro j w hj σ h ⟨o,P,G,A,rfl,rfl,g⟩
   obtain⟨ay,rfl⟩:=Yd hj;rw[NU]at *;obtain⟨N,pt,bg,g',e⟩:=Qg0 (ns:=ns) (hd:=hd) (bs:=bs) (ws:=ws) (xs:=H) aQ aQ (ct:=ct) aQ aQ x1 ay aQ aQ aQ aQ (lf:=o) g (x11:=A)
   exact⟨_,rfl,_,_,dU e,N,P++[pt],_,_,rfl,rfl,g'⟩)
 obtain⟨bf,h',el,o,P,G,A,rfl,rfl,g⟩:=aa;rw[Xt,NU,<-eD]at g;have I:P.map (·.1)=H:=by rw[g.nm,DO (Nu x1)]
 have ae:P≠[]:=λz=>by have:=g.len;rw[z]at this;show k7;lia
 have C:wF:=⟨qY I x2,ae,by have:=g.len;omega,by rw[I];exact g.ok⟩
 have O:∀x∈P,iW<=44:=λx B=>by
  obtain⟨i,hi⟩:=N8.mp B;have:=g.ln i x hi;have:=nk1 (m:=m) (ct:=ct) (c:=i);omega
 have Q:∀x∈P,uV:=λx B=>x4 _ (by rw[<-I];exact O6 (f:=(·.1)) B);have ah:CQ P:=⟨C,g.bal,λx B=>by have:=O x B;omega,⟨D,X.1,fZ,g.dp,by rw[g.len];exact X.2.2⟩,λx B=>Qks C g X.1 X.2.1 bL as N B,b2,w2,Q,fZ,fZ⟩
 obtain⟨d,P1,rfl⟩:∃d P1,P=d::P1:=by
  cases P with
  |nil=>exact absurd rfl ae
  |cons a b=>exact BV
 obtain⟨s,y,rfl⟩:∃u x,H=u++[x]:=⟨H.dropLast,H.getLast (λz=>by show rM z x1;lia),No⟩
 obtain⟨t,bb⟩:∃r:Int,2+mx ns 3/7%4=r:=cN
 have r0:0<=mx ns 3/7%4:=NW _ aA;have r1:mx ns 3/7%4<4:=NM _ aA;have al:atI ((CB s)++[aJ y]) (-1)=bA y:=QbY
 have aj:∀h,QbZ (.tup [.tup [.str "do",aJ y]]) (.int t) h=sO (.tup ((List.replicate t.toNat jQ).map Qz),h):=λh=>by
  unfold QbZ;simp only[];rw[if_pos ⟨aU,aU,aY,aY⟩];have:=Ql4 (ls:=jQ) (n:=t.toNat);rw[<-this];rfl
 let Mo:c8:=(d.1,mM++d.2)::P1
 have bj:d.2.length<=400:=by have:=O d aF;omega
 have ab:atI ((s++[y]).map W.str) 0=n6 d:=by
  have:((d::P1).map (·.1))[0]?=(s++[y])[0]?:=by rw[I]
  simp only[NA,Io]at this;have h0:=ji2;rw[show l'=0 from rfl]at h0;rw[h0,Nx,<-this];rfl
 have ap:∀h,Zd (.tup ((List.replicate t.toNat jQ).map Qz)) (.tup (CP d)) h=sO (.tup ((mM++d.2).map Qz),h):=λh=>by
  rw[Qj5,if_pos (Nv (szN BE)),<-Ed]
 have an:∀h:MH,h=oU->wSl gI sD nO h=sO (.lst (g9 P1),h):=λh eh=>by
  subst eh;have:=Xs yR 1;show sO (W.lst (Y3 yR sD nO),_)=_;rw[jp6]at this;show mD
 have U:∀h,Zd (.tup [.tup [.str d.1,.tup ((mM++d.2).map Qz)]]) (.tup (g9 P1)) h=sO (Zb Mo,h):=λh=>by
  have ax:=C.len;rw[Qj5,if_pos (Nv (szN (by simp at ax ⊢;lia)))];rfl
 have S:1<m->PgOk bs ws Mo:=λY=>by
  have en:Mo.map (·.1)=(d::P1).map (·.1):=rfl;refine⟨by rw[en];exact C.nd,by simp[Mo],C.len,λk x hk l af=>?_⟩;rw[en];cases k with
  | zero=>
   have:(d.1,mM++d.2)=x:=by simpa[Mo]using hk
   subst this
   rcases NQ.mp af with z|z
   ·rw[(Yak.mp z).2];refine⟨.do ?_,by show C2;decide⟩;rw[I];have aw:1<=s.length:=by rw[Nw,NX]at x1;lia
    rw[List.drop_append_of_le_length aw];simp
   ·exact C.ok 0 d rfl l z
  |succ k=>exact C.ok (k+1) x (by simpa[Mo]using hk) l af
 have a0:1<m->tw (Zk Mo 0 (d.1,mM++d.2))<20->GP bs ws Mo:=λY ht=>by
  obtain⟨z1,z2,z3⟩:=QbH (S Y) _ 0 _ cO jo6;have av:Mo.length=(d::P1).length:=rfl;refine⟨S Y,bQ x B,bQ x B,⟨D,X.1,fZ,bQ x B,by rw[av,g.len];exact X.2.2⟩,bQ x B,b2,w2,bQ x B,fZ,fZ⟩
  ·show Ma B
   ·show YD ((mM++d.2).map cdL) []=_;rw[Ed,Qm9];exact g.bal d aF
   ·exact g.bal x PN
  ·show Ma B
   ·omega
   ·have:=O x PN;omega
  ·show Ma B
   ·show(JU [] qz (mM++d.2)).dp<=D;rw[Qiz];obtain⟨r1,r2⟩:=QlM (y:=y) t.toNat qz rfl rfl;rw[QoT d.2 _ qz (r1.trans rfl) (r2.trans rfl)];exact g.dp d aF
   ·exact g.dp x PN
  ·have:(d.1,mM++d.2)=x:=by simpa[Mo]using B
   subst this;have e:tw (Zk Mo 0 (d.1,mM++d.2))=(Zk Mo 0 (d.1,mM++d.2)).pl+(Zk Mo 0 (d.1,mM++d.2)).wy-1:=rfl;omega
  ·show Ma B
   ·exact Q d aF
   ·exact Q x PN
 obtain⟨R,hR,eR⟩:∃R:c8,CQ R/\Vc [scr ns,.int 40] []=sO (Zb R,oU):=by
  have T:JX (KA (Qb cB Ql)) (ZK 10) ZM (gP ns hd m bs ws Aa ct lZ (sO gI) nO nO nO nO) [BC,bN]=sO (.nx (gP ns hd m bs ws Aa ct lZ (sO gI) G A nO nO) oU):=by
   unfold JX;rw[Kn (j:=m) rfl aQ,Ni];exact el
  have bc:atI [W.int 1,.int 1,sF,sF,AF,AF,sF,.int 5] (mx ns 0%8)=aS m:=em;have bd:atI [W.int 1,sF,sF,AF,AF,sF,AF,.int 5] (mx ns 1%8)=aS b:=eb;have ba:atI [W.int 1,sF,sF,AF,.int 1,sF,AF,.int 5] (mx ns 2%8)=aS w:=ew;have i0:atI Rx 0=sO (.int (mx ns 0)):=rfl;have i1:atI Rx 1=sO (.int (mx ns 1)):=rfl;have i2:atI Rx 2=sO (.int (mx ns 2)):=rfl;have i3:atI Rx 3=sO (.int (mx ns 3)):=rfl
  have E3:(Qi wIx (mFn JB (Qb aM (Qb aM (Qb bY (Qb bY (Qb dL (Qb dL (Qb bY (Qb gQ Ql))))))))) (Qi JL (Qi wIx aV bC) iM)) [hF,tW,sO hd,nO,nO,nO,nO,nO,nO,nO,nO,nO,nO,nO] []=sO (aL m,[]):=by
   simp[hd,bc]
  have E4:(QD 2 QU (Qb (Qi V8 (Qi wIx aV aM) iM) (Qb (Qi wIx (mFn JB (Qb aM (Qb bY (Qb bY (Qb dL (Qb dL (Qb bY (Qb dL (Qb gQ Ql))))))))) (Qi JL (Qi wIx aV aM) iM)) Ql))) [hF,tW,sO hd,aS m,nO,nO,nO,nO,nO,nO,nO,nO,nO,nO] []=sO (Jy bs,[]):=by
   simp[hd,bd,b3]
  have E5:(QD 2 QU (Qb (Qi V8 (Qi wIx aV bY) iM) (Qb (Qi wIx (mFn JB (Qb aM (Qb bY (Qb bY (Qb dL (Qb aM (Qb bY (Qb dL (Qb gQ Ql))))))))) (Qi JL (Qi wIx aV bY) iM)) Ql))) [hF,tW,sO hd,aS m,Cj,nO,nO,nO,nO,nO,nO,nO,nO,nO] []=sO (Jy ws,[]):=by
   simp[hd,ba,w3]
  have E6:(QD 2 QU (Qb (Qi wIx aV dL) (Qb cB Ql))) [hF,tW,sO hd,aS m,Cj,Pi,nO,nO,nO,nO,nO,nO,nO,nO] []=sO (Jy Aa,[]):=by
   simp[hd,x3]
  have E7:(mFn Qhw (Qb (mFn QmL (Qb (Qi Qig (mFn JT (Qb aE Ql)) iT) (Qb aK Ql))) (Qb (Qi Zd dL (Qi JL (Qi V8 (Qi wIx aV bC) iM) pB)) Ql))) [hF,tW,sO hd,aS m,Cj,Pi,sO (Jy Aa),nO,nO,nO,nO,nO,nO,nO] []=sO (.int ct,[]):=by
   rw[ao];simp only[Qno,s_c,Qtn,QpW,Qk8,Qrd,Qo4,scr];simp[hd]
  have E8:(Qi wIx (mFn JB (Qb dL (Qb aM Ql))) (mFn Qg9 (Qb (Qi wGt dS vX) Ql))) [hF,tW,sO hd,aS m,Cj,Pi,sO (Jy Aa),sO (.int ct),nO,nO,nO,nO,nO,nO] []=sO (.int lf,[]):=by
   simp[Qg9,am,ak]
  have F:(Qi QbZ (mFn Xf (Qb (mFn Xf (Qb qJ (Qb (Qi wIx dY (mUn GM aM)) Ql))) Ql)) (Qi Zd bY (Qi JL (Qi V8 (Qi wIx aV dL) zc1) iT))) (gP ns hd m bs ws Aa ct lZ (sO gI) G A nO nO) oU=sO (.tup ((List.replicate t.toNat jQ).map Qz),oU):=by
   have:=aj oU;simp only[NA]at this ⊢;simp[gP,hd,al,bb,this]
  have E:(Qi Zd (mFn Xf (Qb (mFn Xf (Qb (Qi wIx dY bC) (Qb (Qi Zd (Qe 12) (Qi wIx (Qi wIx mF bC) aM)) Ql))) Ql)) (mFn J8 (Qb (mSl mF (ZW aM) Ji) Ql))) (gP ns hd m bs ws Aa ct lZ (sO gI) G A (sO (.tup ((List.replicate t.toNat jQ).map Qz))) nO) oU=sO (Zb Mo,oU):=by
   have a1:=ap oU;have a2:=U oU;have a3:=an _ rfl;have a4:atI yR 0=sO (Zm d):=Uh (p:=d::P1) (i:=0) (x:=d) rfl;have a5:atI [W.str d.1,z6 d] 1=p0 d:=rfl;generalize hh:(oU:MH)=H0 at a1 a2 a3 ⊢;have Y:H0[1]?=sO (.lst yR):=by rw[<-hh];rfl
   generalize(List.replicate t.toNat jQ).map Qz=RR at a1 ⊢;have a9:Zb Mo=.tup (.tup [.str d.1,.tup ((mM++d.2).map Qz)]::lH P1):=rfl;generalize((List.replicate t.toNat jQ)++d.2).map Qz=R2 at a1 a2 a9;have a6:((d::P1).map Zm)[0]?=sO (Zm d):=rfl
   have a8:Y3 yR sD nO=lH P1:=by
    have:=Xs yR 1;rw[jp6]at this;show mD
   have z8:1+P1.length<=sizeLine:=Nv (szN (by have:=C.len;show k7;lia))
   have a7:((s++[y]).map W.str)[0]?=n6 d:=by
    have h0:=ji2;rw[<-h0];exact ab
   generalize bi:(d::P1).map Zm=PL at a4 a6 a8 Y;generalize au:(s++[y]).map W.str=XL at a7 ab;simp[gP,Jy,au,a7,Y,a6,Zm,a5,a1,a8,z8,a9]
  unfold Vc;generalize JX (KA (Qb cB Ql)) (ZK 10) ZM=fo at T;generalize Zc Jd (KA (Qb iT Ql)) PC d9 KS (QD 2 Qw (Qb aK (Qb aE Ql)))=e2 at J;generalize(Qi wIx (mFn JB (Qb aM (Qb aM (Qb bY (Qb bY (Qb dL (Qb dL (Qb bY (Qb gQ Ql))))))))) (Qi JL (Qi wIx aV bC) iM))=e3 at E3;generalize(QD 2 QU (Qb (Qi V8 (Qi wIx aV aM) iM) (Qb (Qi wIx (mFn JB (Qb aM (Qb bY (Qb bY (Qb dL (Qb dL (Qb bY (Qb dL (Qb gQ Ql))))))))) (Qi JL (Qi wIx aV aM) iM)) Ql)))=e4 at E4;generalize(QD 2 QU (Qb (Qi V8 (Qi wIx aV bY) iM) (Qb (Qi wIx (mFn JB (Qb aM (Qb bY (Qb bY (Qb dL (Qb aM (Qb bY (Qb dL (Qb gQ Ql))))))))) (Qi JL (Qi wIx aV bY) iM)) Ql)))=e5 at E5;generalize(QD 2 QU (Qb (Qi wIx aV dL) (Qb cB Ql)))=e6 at E6;generalize(mFn Qhw (Qb (mFn QmL (Qb (Qi Qig (mFn JT (Qb aE Ql)) iT) (Qb aK Ql))) (Qb (Qi Zd dL (Qi JL (Qi V8 (Qi wIx aV bC) iM) pB)) Ql)))=e7 at E7;generalize(Qi wIx (mFn JB (Qb dL (Qb aM Ql))) (mFn Qg9 (Qb (Qi wGt dS vX) Ql)))=e8 at E8;generalize(Qi QbZ (mFn Xf (Qb (mFn Xf (Qb qJ (Qb (Qi wIx dY (mUn GM aM)) Ql))) Ql)) (Qi Zd bY (Qi JL (Qi V8 (Qi wIx aV dL) zc1) iT)))=br at F;generalize(Qi Zd (mFn Xf (Qb (mFn Xf (Qb (Qi wIx dY bC) (Qb (Qi Zd (Qe 12) (Qi wIx (Qi wIx mF bC) aM)) Ql))) Ql)) (mFn J8 (Qb (mSl mF (ZW aM) Ji) Ql)))=bq at E;generalize az:(d::P1).map Zm=PM at *;generalize bp:(List.replicate t.toNat jQ).map Qz=RR at F E;have aq:Zb (d::P1)=.tup PM:=by rw[<-az];rfl
  simp only[gP]at T F E;simp only[hd]at E3 E4 E5 E6 E7 E8 T F E
  by_cases Z:1<m
  ·have L:eS<m:=aU
   have ev:=QcJ (S Z) 6 0 _ jo6 aA;obtain⟨v,hv⟩:∃v,v=tw (szw (sd (Mo.drop (0+1))) (d.1,mM++d.2).2):=cN
   rw[<-hv]at ev;have ai:∀h,JP [Zb Mo,.int 0] h=sO (aL v,h):=ev
   by_cases c2:mx ns 2/64%4=0/\v<20
   ·refine⟨Mo,a0 Z (by rw[hv]at c2;exact c2.2),?_⟩;simp[QN,J,E3,E4,E5,E6,E7,E8,T,F,E,Z,L,i2,c2.1,ai,c2.2]
   ·refine⟨d::P1,ah,?_⟩;rw[aq]
    by_cases c3:mx ns 2/64%4=0
    ·have c4:¬v<20:=λz=>c2 (iI c3 z);simp[QN,J,E3,E4,E5,E6,E7,E8,T,F,E,Z,L,i2,c3,ai,c4]
    ·simp[QN,J,E3,E4,E5,E6,E7,E8,T,F,E,Z,L,i2,c3]
  ·have L:¬eS<m:=aU
   refine⟨d::P1,ah,?_⟩;rw[aq];simp[QN,J,E3,E4,E5,E6,E7,E8,T,F,E,Z,L]
 exact⟨bs,ws,R,hR,λh=>QC (g:=_) za4 eR aF⟩
noncomputable abbrev bkL(w:Str):Ln:=["back",w]
inductive Bkd(Wd:aD):d4->d4->Prop where
 |nil:Bkd Wd [] []
 |keep {L M:d4} {l:Ln} (h:A0):Bkd Wd uM (M++[l])
 |back {L M:d4} {l:Ln} {w:Str} (h:A0) (hw:xS):Bkd Wd uM (M++[bkL w]++[l])
inductive BkP(Wd:aD):c8->c8->Prop where
 |nil:BkP Wd [] []
 |cons {x y:Pt} {r s:c8} (h:x.1=y.1) (hb:zb6) (t:BkP Wd r s):BkP Wd iQ (y::s)
section
variable{Wd:aD}{L M:d4}{R Q:c8}
theorem BkP.snoc{x y:Pt}(h:x.1=y.1)(b:zb6):∀{R Q:c8},Ck->BkP Wd (R++[x]) (Q++[y])
 |_,_,.nil=>.cons h b .nil
 |_,_,.cons h' a t=>.cons h' a (t.snoc h b)
theorem Qm8(w:Str):cdL nN=.ot:=by show cd "back"=.ot;decide
theorem Bkd.kr(h:A0):zc4 M=zc4 L:=by
 induction h with
 |nil=>rfl
 |keep h a=>rw[Ed,Ed,X3,X3,a]
 | @back L M l w h hw a=>
  rw[Ed,Ed,Ed,X3,X3,X3,a];cases zc4 L with
  |none=>rfl
  |some s=>
   show Option.bind (YD [cdL nN] s) _=_;rw[Qm8];rfl
theorem Bkd.mem(h:A0):∀l∈M,l∈L\/∃w∈Wd,l=bkL w:=by
 induction h with
 |nil=>intro l a;cases a
 |keep h b=>
  intro l a
  show tX a z
  ·exact(b l z).imp (Ee _) id
  ·exact .inl (NS _ z)
 | back h hw b=>
  intro l a
  show tX a z
  ·show zB z
   ·exact(b l z).imp (Ee _) id
   ·exact .inr ⟨_,hw,j2 z⟩
  ·exact .inl (NS _ z)
theorem Bkd.len(h:A0):M.length<=2*L.length:=by
 induction h with
 |nil=>simp
 |keep h a=>simp;omega
 |back h hw a=>simp;omega
def Sm(z a:Sz):Prop:=z.pl=a.pl/\z.dp=a.dp/\z.wy=a.wy/\a.bk<=tw a/\0<=a.dp
def SdR(a b:Sd):Prop:=∀nm,(look a nm=nO/\look b nm=nO)\/∃z c,look a nm=sO z/\look b nm=sO c/\Sm z c
theorem sm1:Sm tR tR:=⟨rfl,rfl,rfl,a',a'⟩
theorem QcF{a b:Sd}(h:SdR a b){l:Ln}(f:gE):Sm (ZG a l) (ZG b l):=by
 unfold ZG;split
 ·rcases h (l.getD 1 "")with⟨d,c⟩|⟨z,g,d,c,e⟩
  ·rw[d,c];exact sm1
  ·rw[d,c];exact e
 ·rw[f];exact sm1
theorem WM{a:Sd}(w:Str):ZG a nN=⟨0,1,0,0⟩:=by
 unfold ZG;have c:Kw nN=false:=by show C2;decide
 have b:Yr nN=true:=jw3
 rw[c,b];rfl
structure RunR(q q':Q5):Prop where
 pl:q.pl=q'.pl
 lv:q.lv=q'.lv
 dp:q.dp=q'.dp
 wy:q.wy=q'.wy
 bk:q'.bk<=tQ q'
 ld:q'.lv<=q'.dp
 d0:0<=q'.dp
theorem RunR.step{a b:Sd}{q c:Q5}(g:RunR q c)(h:SdR a b){l:Ln}(j:gE):RunR (XX a q l) (XX b c l)/\(XX b c l).bk+1<=tQ (XX b c l)+1:=by
 obtain⟨i,f,e,d,o⟩:=QcF h j;obtain⟨g1,g2,g3,n,r,p,g7⟩:=g;unfold tw at d;have m:(XX b c l).bk<=tQ (XX b c l):=by rw[Y9,Qb0];omega
 refine⟨⟨by rw[Ym,Ym,g1,i],by rw[Xj,Xj,g2],by rw[VA,VA,g2,g3,f],by rw[KI,KI,n,e],m,by rw[Xj,VA];omega,by rw[VA];omega⟩,fZ⟩
theorem Bkd.run{a b:Sd}(h:SdR a b)(u:A0):(∀l∈L,gE)->RunR (JU a qz L) (JU b qz M):=by
 induction u with
 |nil=>exact λ_=>⟨rfl,rfl,rfl,rfl,by show gK<=0+1-1;decide,Lf 0,Lf 0⟩
 |keep _ e=>
  intro f;obtain⟨i,g⟩:=Vw f;rw[Zl,Zl];exact((e i).step h g).1
 |@back L M l w _ hw e=>
  intro f;obtain⟨i,g⟩:=Vw f;rw[Zl,Zl,Zl];obtain⟨g1,g2,g3,v,B,A,g7⟩:=e i;generalize JU a qz L=q at *;generalize JU b qz M=c at *;obtain⟨t,s,r,p,z⟩:=QcF h g;unfold tw at p;have m:ch (cdL nN)=0:=by rw[Qm8];rfl
  have o:(XX b c nN).pl=c.pl:=by rw[Ym,WM];exact Yal _
  have d:(XX b c nN).lv=c.lv:=by rw[Xj,m];exact Yal _
  have j:(XX b c nN).dp=c.dp:=by rw[VA,m,WM];show max c.dp (c.lv+0+0)=_;omega
  have n:(XX b c nN).wy=c.wy:=by rw[KI,WM];exact Yal _
  have y:(XX b c nN).bk=c.bk+1:=by rw[Qb0,WM]
  have x:tQ (XX b c nN)=tQ c:=by unfold tQ;rw[o,n]
  refine⟨by rw[Ym,Ym,o,g1,t],by rw[Xj,Xj,d,g2],by rw[VA,VA,d,j,g2,g3,s],by rw[KI,KI,n,v,r],by rw[Y9,Qb0,y,x];omega,by rw[Xj,VA,d,j];omega,by rw[VA,d,j];omega⟩
theorem Qez{a b:Sd}(h:SdR a b)(d:A0)(c:∀l∈L,gE):Sm (szw a L) (szw b M):=by
 obtain⟨g1,g2,g3,f,e,g,g7⟩:=d.run h c;exact⟨g1,g3,f,e,g7⟩
theorem Qgr:SdR [] []:=λ_=>.inl wC
theorem BkP.sdr:∀{R Q:c8},Ck->(∀x∈R,∀l∈x.2,gE)->SdR (sd R) (sd Q)
 |_,_,.nil,_=>Qgr
 | _,_,@BkP.cons _ x y r s h m t,e=>by
  have d:=BkP.sdr t (iV x i e);have g:=Qez d m (e x aF);intro nm;rw[sd,sd,YF,YF]
  rcases d nm with⟨b,a⟩|⟨z,f,b,a,j⟩
  ·rw[b,a]
   by_cases c:x.1=nm
   ·right;refine⟨R8 r x,R8 s y,?_,?_,g⟩
    ·simp[look,c]
    ·simp[look,<-h,c]
   ·left;refine⟨?_,?_⟩
    ·simp[look,c]
    ·simp[look,<-h,c]
  ·right;exact⟨z,f,u8 b,u8 a,j⟩
theorem BkP.names:∀{R Q:c8},Ck->Q.map (·.1)=R.map (·.1)
 |_,_,.nil=>rfl
 |_,_,.cons h _ t=>by rw[NA,NA,h,t.names]
theorem BkP.get:∀{R Q:c8},Ck->∀{i:Nat} {y:Pt},Q[i]?=sO y->∃x,R[i]?=sO x/\x.1=y.1/\zb6
 |_,_,.nil,i,y,h=>gG h
 |_,_,.cons h a t,0,y,e=>by show Ai e;exact⟨_,rfl,h,a⟩
 |_,_,.cons h a t,i+1,y,e=>by
  obtain⟨x,h1,b⟩:=t.get (i:=i) (cD e);exact⟨x,cL h1,b⟩
theorem Qns:∀ls:d4,(JU [] qz ls).pl<=ls.length/\(JU [] qz ls).wy=1:=by
 refine XW ⟨a',rfl⟩ (aP L l a);rw[Zl,Ym,KI,Qa7,Nw,NX];push_cast;split
 ·exact⟨by show _+gK<=_;omega,by show _+gK=_;omega⟩
 ·exact⟨by show _+eS<=_;omega,by show _+gK=_;omega⟩
theorem Qli{bs ws f la:aD}{l:Ln}(j:o0)(i:∀a w b c,l=yF->w∈f)(m:gE):LineOk bs f la l:=by
 cases j with
 |plain h=>
  cases h with
  |pair d hw e g=>exact .plain (.pair d (i _ _ _ _ rfl) e g)
  |first d e=>exact .plain (.first d e)
  |second d e=>exact .plain (.second d e)
  |same d e=>exact .plain (.same d e)
  |none d=>exact .plain (.none d)
  |tell d=>exact .plain (.tell d)
 |«do» h=>exact .do h
 |blk h=>exact .blk h
 |back h=>exact absurd m (by show¬C2;decide)
theorem QbS{bs ws:aD}(g:CQ R)(h:Ck)(hW:∀w∈Wd,Nm w)(aa:ze3)(Z:∀x∈R,∀a w b c,yF∈x.2->xS):GoodP 96 bs Wd Q/\(als Q).length<=1000/\(∀x∈Q,uV)/\∀h,Q2 [Zb Q] h=sO (dM,h):=by
 have o:∀x∈R,∀l∈x.2,gE:=λx j l C=>by
  show A5 i v j;exact(g.g.ok i x v l C).2
 have d:Q.length=R.length:=by have:=congrArg List.length h.names;show iA
 have get:∀y∈Q,∃x∈R,x.1=y.1/\zb6:=λy m=>by
  show A5 i v m;show fY x J h2 h v;exact⟨x,N0 J,h2⟩
 have A:GoodP 96 bs Wd Q:=by
  refine⟨fX z,by rw[d];exact g.g.len,bQ y m,bQ y m,λi y v l C=>?_,by rw[h.names];exact g.g.nd⟩
  ·rw[z]at d;exact g.g.ne (NT.mp d.symm)
  ·obtain⟨x,j,_,u⟩:=get y m;rw[u.kr];exact g.bal x j
  ·obtain⟨x,j,_,u⟩:=get y m;have:=g.ln x j;have:=u.len;omega
  ·obtain⟨x,j,_,u⟩:=h.get v;rw[h.names]
   rcases u.mem l C with z|⟨w,hw,rfl⟩
   ·obtain⟨G,F⟩:=g.g.ok i x j l z;exact Qli G (λa w b c e=>Z x (N0 j) a w b c (e▸z)) F
   ·exact .back hw
 have I:(als Q).length<=1000:=by
  have:=QmU (N:=96) A.sz;have:=A.len;have:Q.length*96<=5*96:=Nat.mul_le_mul_right _ this;omega
 have H:∀x∈Q,uV:=λy m=>by
  obtain⟨x,j,e,_⟩:=get y m;rw[<-e];exact g.hn x j
 refine⟨A,I,H,?_⟩;cases h with
 |nil=>exact absurd rfl g.g.ne
 | @cons x y r s J u t=>
  obtain⟨nb,nw,a1,a2,_,_,a5⟩:=QqE (x:=y) A aA rfl I (by have:=g.b5;omega) bL g.hb hW H;intro hh;rw[a5 hh];obtain⟨f1,f2,f3⟩:=g.fl x rfl;obtain⟨D,d0,d6,O,d2⟩:=g.dp;have dl:=Qqr g.g d0 O _ 0 x cO rfl;have Y:=t.sdr (iV z B o);obtain⟨s1,s2,s3,T,s5⟩:=Qez Y u (o x aF);have b5:=g.b5
  have own:∀z∈y::s,smB (szw [] z.2)=true:=λz B=>by
   obtain⟨f,n,_,E⟩:=get z B;obtain⟨G,F,o3,U,o5⟩:=Qez Qgr E (o f n);have p:=Qns f.2;have X:=g.ln f n;have dd:=O f n;have q1:(szw [] f.2).pl=(JU [] qz f.2).pl:=rfl;have q2:(szw [] f.2).wy=(JU [] qz f.2).wy:=rfl;have q3:(szw [] f.2).dp=(JU [] qz f.2).dp:=rfl;unfold tw at U;unfold smB;rw[decide_eq_true bL,decide_eq_true bL,decide_eq_true bL];rfl
  have S:(Zk iQ 0 x)=R8 r x:=rfl;have P:szw (sd ((y::s).drop 1)) y.2=R8 s y:=rfl;rw[S]at f1 f2 f3 dl;have e0:D*(((x::r).length:Int)-An)=D*(x::r).length:=aY
  rw[e0]at dl;rw[P];unfold tw at f2 T
  have e1:smB (szw (sd s) y.2)=true:=by
   unfold smB;rw[decide_eq_true bL,decide_eq_true bL,decide_eq_true bL];rfl
  rw[e1,decide_eq_true bL,decide_eq_true bL,decide_eq_true bL,NV.mpr own];rfl
#print "-"
theorem QaC{bs ws:aD}{R:c8}(g:CQ R):∃vs:aD,(∀w∈vs,w∈ws)/\vs.length<=5/\(∀x∈R,∀a w b c,yF∈x.2->w∈vs)/\∀h,JQ [Zb R] h=sO (.lst (vs.map .str),h):=by
 have i:=JD (items:=lH R) (b:=ZS [2,3]) (body:=Vk) (λj t h=>∃(d:aD) (p o:cH),t=[bU R,sO (fL d),p,o]/\h=[]/\(∀w∈d,w∈ws)/\d.length<=48*j/\∀x∈R.take j,∀a w b c,yF∈x.2->w∈d) (g9 R) 0 [bU R,sO jD,nO,nO] [] ⟨[],nO,nO,rfl,rfl,aY,aY,aY⟩ (by
  rintro j w B t h ⟨d,p,o,rfl,rfl,s,C,m⟩
  rw[Nx]at B;show l8 x f B;rw[NU]at *;have F:=cG f;have G:=g.g.len;have u:=N0 f;have H:=g.ln x u;obtain⟨r,N,X,M,J⟩:=Y4 (kd:="pair") (k:=1) (Wd:=ws) (ls:=x.2) (mi:=QP cB) (σ:=[bU R,sO (fL d),n6 x,p0 x]) (h:=[]) rfl cN bL λl E=>Qc8 (g.g.ok j x f l E).1;have z:d.length+r.length<=sizeLine:=Nv (szN bL);refine⟨[bU R,sO (fL d),n6 x,p0 x],by simp[ZS,Zm,W7],[bU R,sO (.lst ((d++r).map .str)),n6 x,p0 x],[],j0,d++r,_,_,rfl,rfl,λw hw=>(NQ.mp hw).elim (s w) (N w),by rw[Nw];omega,λy v a w b c A=>?_⟩
  ·have n:Zc Jd (QP cB) [nO] d9 (QB (Qi wEq (Qi wIx aE bC) mU)) (Qi wIx aE bY) [bU R,sO (fL d),n6 x,p0 x] []=sO (c7 r,[]):=J;unfold Vk;generalize Zc Jd (QP cB) [nO] d9 (QB (Qi wEq (Qi wIx aE bC) mU)) (Qi wIx aE bY)=co at n;simp[n,z]
  ·rw[Ez,f]at v
   show tX v q
   ·exact Ee _ (m y q a w b c A)
   ·show Ai q
    exact NS _ (M _ _ A rfl))
 obtain⟨D,U,e,d,p,o,rfl,rfl,s,C,m⟩:=i;rw[Nz,NU]at C m;rw[EM]at m;have G:=g.g.len;have T:=Wa s;have O:=g.w5;have I:=GF (a:=c7 d) (ss:=d) (h:=[]) rfl bL bL;refine⟨St.srt (St.uniq d),zV8 s,by rw[Qby];omega,λx f a w b c u=>(St.srt_spec _).1.mem_iff.mpr ((St.uniq_mem _ _ rfl w).mpr (m x f a w b c u)),fX h⟩
 have L:JX (QP aE) nA Vk [bU R,sO jD,nO,nO] []=sO (.nx [bU R,sO (fL d),p,o] []):=by
  unfold JX;rw[show QP aE [bU R,sO jD,nO,nO] []=sO (lH R,nO,[])from rfl,Ni];exact e
 refine WQ (j:=0) (g:=[jl7 d]) aF ?_ rfl aF;simp[Kc,QN,L,I]
noncomputable abbrev bS(ns:eX)(R:c8)(Wd:aD)(k:Nat)(x5 x6 x7:cH):MSt:=[hF,bU R,B0,cE,aS k,x5,x6,x7]
theorem QfN{ns:eX}{R:c8}{Wd:aD}(D:Wd≠[])(P:ze3){k:Nat}(Y:k<5){x:Pt}(L:R[k]?=sO x)(X:iW<=48){a:MO}{t:MH}{m:Nat}(C:t[m]?=sO jD){x6 x7:cH} :
  ∃M p n,Bkd Wd x.2 M/\JX (KA (Qb (mFn JT (Qb (Qi wIx (Qi wIx aK dF) aM) Ql)) Ql)) (ZK 6) Vd (bS ns R Wd k t6 x6 x7) (a::t)=sO (.nx (bS ns R Wd k t6 p n) (a::t.set m (BO M))):=by
 have r:=cG C;have E:∀o,(t.set m o)[m]?=sO o:=λo=>EA r;have v:=Uh L
 have g:=JD (items:=Zj 0 iW) (b:=ZK 6) (body:=Vd) (λj y h=>∃(M:d4) (x6 x7:cH),y=bS ns R Wd k t6 x6 x7/\h=a::t.set m (BO M)/\Bkd Wd zR9 M) (Zj 0 iW) 0 (bS ns R Wd k t6 x6 x7) (a::t) ⟨[],x6,x7,rfl,by rw[show(([]:d4).map Qz)=[]from rfl,Qcn C],.nil⟩ (by
  rintro j w O y h ⟨M,x6,x7,rfl,rfl,f⟩
  obtain⟨s,rfl⟩:=Yd O;rw[NU]at *;have d:x.2[j]?=sO x.2[j]:=Nl s;generalize x.2[j]=l at d;have N:jm5:=zI d
  have u:=f.len;rw[EL]at u;have z:M.length<sizeLine:=szN bL;have I:M.length+1<sizeLine:=szN bL;have em:=QiD ns (k:=200+50*k+j) bL (a::t.set m (BO M));have T:=Qbm ns (200+50*k+j);generalize mx ns (200+50*k+j)=c at em T;push_cast at em;have F:atI (CP x) kT=sO pV:=zN9 d
  have B:(yD:Int)<k:=fZ
  have A:cT<18446744073709551616:=fZ
  have q:gK<Wd.length:=by have:=Df.mpr D;omega
  have J:0<Wd.length:=Df.mpr D;rw[N]
  by_cases G:c%4=0
  ·obtain⟨w,hw,Q⟩:=Qbr (xs:=Wd) (i:=c/4%(Wd.length:Nat)) (CC q) (NM _ q);refine⟨bS ns R Wd k t6 (bG j) x7,rfl,bS ns R Wd k t6 (bG j) (bG c),a::t.set m (.lst ((M++[bkL w]++[l]).map Qz)),j0,M++[bkL w]++[l],_,_,rfl,rfl,.back f hw⟩;have S:Qz nN=.tup [.str "back",aJ w]:=rfl;simp[bS,B,A,em,G,q,J,Q,E,z,I,tyW,v,F,S,Zm]
  ·refine⟨bS ns R Wd k t6 (bG j) x7,rfl,bS ns R Wd k t6 (bG j) (bG c),a::t.set m (.lst ((M++[l]).map Qz)),j0,M++[l],_,_,rfl,rfl,.keep f⟩
   simp[bS,B,A,em,G,E,z,tyW,v,F,Zm])
 obtain⟨H,Z,e,M,p,n,rfl,rfl,f⟩:=g;rw[Xt,NU,EM]at f;refine⟨M,p,n,f,?_⟩
 have ei:Qb (mFn JT (Qb (Qi wIx (Qi wIx aK dF) aM) Ql)) Ql (bS ns R Wd k t6 x6 x7) (a::t)=sO ([.int (iW:Nat)],a::t):=by
  simp[bS,v,Zm]
 unfold JX;rw[Kn (j:=iW) ei bL,Ni];exact e
theorem Qeq(ns:eX){bs ws:aD}{R:c8}(g:CQ R):∃(Wd:aD) (Q:c8),Ck/\(∀w∈Wd,Nm w)/\ze3/\(∀x∈R,∀a w b c,yF∈x.2->xS)/\∀h:MH,Jr [scr ns,Zb R] h=sO (Zb Q,h):=by
 obtain⟨f,v1,S,P,v4⟩:=QaC g;obtain⟨Wd,i⟩:∃Wd:aD,Wd=if f=[]then[("spare":Str)]else f:=cN
 have hW:Wd≠[]:=by
  rw[i];split
  ·simp
  ·assumption
 have A:ze3:=by
  rw[i];split
  ·simp
  ·exact S
 have H:∀w∈Wd,Nm w:=λw hw=>by
  rw[i]at hw;split at hw
  ·rw[NK.mp hw];exact Qjb
  ·exact g.hw w (v1 w hw)
 have G:∀x∈R,∀a w b c,yF∈x.2->xS:=λx p a w b c Y=>by
  have:=P x p a w b c Y;rw[i];split
  ·rename_i z;show oB z
  ·exact this
 have h5:=g.g.len
 have v:=JD (items:=Zj 0 R.length) (b:=ZK 4) (body:=Jn) (λj I h=>∃(Q:c8) (r:MH) (C u n l:cH),I=[hF,bU R,B0,cE,C,u,n,l]/\h=.lst (g9 Q)::r/\BkP Wd (R.take j) Q) (Zj 0 R.length) 0 [hF,bU R,B0,cE,nO,nO,nO,nO] [bN] ⟨[],[],nO,nO,nO,nO,rfl,rfl,.nil⟩ (by
  rintro j w Z I h ⟨Q,r,C,u,n,l,rfl,rfl,B⟩
  obtain⟨F,rfl⟩:=Yd Z;rw[NU]at *;have p:R[j]?=sO R[j]:=Nl F;generalize R[j]=x at p;have X:R.take (j+1)=R.take j++[x]:=zI p
  have E:(r++[MO.lst []])[r.length]?=sO jD:=aY
  obtain⟨M,O,N,T,D⟩:=QfN (ns:=ns) (R:=R) (Wd:=Wd) hW A (k:=j) bL p (g.ln x (N0 p)) (a:=.lst (g9 Q)) (t:=r++[bN]) (m:=r.length) E (x6:=n) (x7:=l)
  have aa:Q.length=j:=by
   have:=congrArg List.length B.names;show k7;omega
  have z:Q.length<sizeLine:=szN bL;have ep:=Uh p;have hS:∀o,((r++[MO.lst []]).set r.length o)[r.length]?=sO o:=λo=>EA aF;refine⟨bS ns R Wd j u n l,rfl,bS ns R Wd j (sO (.ref (eY r))) O N,MO.lst ((Q++[(x.1,M)]).map Zm)::(r++[MO.lst []]).set r.length (BO M),j0,Q++[(x.1,M)],_,_,_,_,_,rfl,rfl,by rw[X];exact B.snoc (x:=x) (y:=(x.1,M)) rfl T⟩;unfold Jn;generalize JX (KA (Qb (mFn JT (Qb (Qi wIx (Qi wIx aK dF) aM) Ql)) Ql)) (ZK 6) Vd=fo at D;simp only[bS]at D
  simp[bS,D,hS,z,tyW,ep,Zm])
 obtain⟨L,h',e,Q,r,C,u,n,l,rfl,rfl,B⟩:=v;rw[Xt,NU,EM]at B;refine⟨Wd,Q,B,H,A,G,λh=>QC (g:=.lst (g9 Q)::r) za4 ?_ aF⟩
 have s:JX (KA (Qb (mFn JT (Qb aK Ql)) Ql)) EQ Jn [hF,bU R,B0,cE,nO,nO,nO,nO] [bN]=sO (.nx [hF,bU R,B0,cE,C,u,n,l] (.lst (g9 Q)::r)):=by
  have ei:Qb (mFn JT (Qb aK Ql)) Ql [hF,bU R,B0,cE,nO,nO,nO,nO] [bN]=sO ([.int (R.length:Nat)],[bN]):=by simp[Zb]
  unfold JX;rw[Kn (j:=R.length) ei bL,Ni];exact e
 unfold XS;generalize JX (KA (Qb (mFn JT (Qb aK Ql)) Ql)) EQ Jn=fo at s;have eP:Zb Q=W.tup (g9 Q):=rfl;rw[eP]
 have d:wEq (fL f) jD []=sO (.bl f.isEmpty,[]):=by
  show wEq (Jy f) jD []=_;rw[QoL GY rfl (Ng QcA aA) Ts];cases f<;>simp[Jy,eqW,K5]
 generalize lH Q=QQ at s
 by_cases c:f=[]
 ·rw[bW c]at i;subst c;rw[i]at s;simp at s d;have J:=v4 [];simp at J;simp[QN,J,d,s]
 ·rw[cR c]at i;have U:f.isEmpty=false:=cL c
  rw[U]at d;rw[i]at s;simp[QN,v4,d,s]
open Sp
noncomputable def giv:aD:=je5
noncomputable def wl:Ln->aD
 |x::b::r=>if x∈giv then b::"="::(if x="same"then r else x::r)else x::b::r
 |l=>l
theorem Qgq:(Str.ofString " ":Str)=sg 32:=a'
theorem Qi3:(Str.ofString "\n":Str)=sg 10:=a'
noncomputable def Yj(l:Ln):Str:=Str.join fU (wl l)
theorem jT{zs:aD}{h:MH}{c:Nat}(a:(zs.map (·.length)).sum+zs.length*1<=16777216):Xp (.str eM) [.tup qU] h=sO (.str (Str.join eM zs),h):=by
 show zS9;exact bW a
theorem jL{zs:aD}{h:MH}{c:Nat}(a:(zs.map (·.length)).sum+zs.length*1<=16777216):Xp (.str eM) [.lst qU] h=sO (.str (Str.join eM zs),h):=by
 show zS9;exact bW a
theorem jR{zs:aD}{h:MH}{c n:Nat}(e:h[n]?=lP)(d:(zs.map (·.length)).sum+zs.length*1<=16777216):Xp (.str eM) [aG n] h=sO (.str (Str.join eM zs),h):=by
 show((lsW h (aC n)).bind λa=>(UD a).bind λzs=>if(zs.map (·.length)).sum+zs.length*Mu<=16777216 then sO (W.str (Builtin.Str.glued eM zs),h)else nO)=_;rw[show lsW h (aC n)=sO z9 from by show(match h[n]? with|some (MO.lst b)=>sO b|_=>nO)=_;rw[e],Ni,YX,Ni,<-IH];exact bW d
theorem Qg1{x:Str}{h:MH}:wIn false cM Ky h=sO (.bl (decide (x∈giv)),h):=(Gc (g:=false) (x:=x) (l:=giv) (h:=h)).trans aF
theorem YG{x y:Str}{r:aH}{h:MH}(b:Vj r=true):XZ [.tup (aJ x::aJ y::r)] h=sO (if x∈giv then aJ y else .non,h):=by
 refine QC (g:=[]) (kS b) ?_ (by split<;>rfl)
 by_cases a:x∈giv
 ·simp[K3,QN,Qg1,a]
 ·simp[K3,QN,Qg1,a]
theorem Qdy{x:Str}{h:MH}(a:x∉giv):XZ [.tup [aJ x]] h=zg1:=by
 refine QC (g:=[]) aF ?_ rfl;simp[K3,QN,Qg1,a]
def Sh(l:aD):Prop:=∀x∈l,zh0
theorem QjM:∀{l:aD},Sh l->(l.map (·.length)).sum<=8*l.length:=by
 intro l
 induction l with
 |nil=>
  intro _;simp
 |cons x r a=>
  intro h;have d:=h x aF;have c:=a (iV y b h);simp;lia
theorem Qo2{l:aD}(h:Sh l)(a:l.length<=1000):(l.map (·.length)).sum+l.length*1<=16777216:=by have:=QjM h;lia
theorem Qs0{zs:aD}{h:MH}(a:Sh zs)(b:zs.length<=1000):Xp (.str B9) [.tup qU] h=sO (.str (Str.join fU zs),h):=by rw[Qgq];exact jT (Qo2 a b)
theorem Qkx(xs:aH):Y3 xs (sO 2) nO=xs.drop 2:=Xs xs 2
theorem Qro(xs:aH):Y3 xs sD nO=xs.drop 1:=Xs xs 1
theorem sz3:(3:Nat)<=sizeLine:=a'
theorem sz2:(2:Nat)<=sizeLine:=a'
theorem nm8{x:Str}(h:Nm x):zh0:=h.hi
theorem Wp(x y:Str):zP2=yO:=strLen_append ..
theorem U0{x y:Str}{h:MH}(h1:x.length<=200)(a:y.length<=200):Zd cM lE h=zE4:=by
 have:yO<=sizeLine:=Ng (DZ h1 a) aA;show(if yO<=sizeLine then sO (W.str (x++y),h)else nO)=_;rw[if_pos this]
theorem Qj8:(Str.ofString " = pair ").cps.toList=[32,61,32,112,97,105,114,32]:=a'
theorem Qjv:(Str.ofString "=").cps.toList=[61]:=a'
theorem Qj0:(Str.ofString "pair").cps.toList=[112,97,105,114]:=a'
theorem QjK:(Str.ofString " = ").cps.toList=[32,61,32]:=a'
theorem Qjt:(Str.ofString "first").cps.toList=[102,105,114,115,116]:=a'
theorem QjW:(Str.ofString "second").cps.toList=[115,101,99,111,110,100]:=a'
theorem QjF:(Str.ofString " ").cps.toList=[32]:=a'
theorem QjC:(Str.ofString " = none").cps.toList=[32,61,32,110,111,110,101]:=a'
theorem QjD:(Str.ofString "none").cps.toList=[110,111,110,101]:=a'
theorem QjU:(Str.ofString "tell").cps.toList=[116,101,108,108]:=a'
theorem QaW:(Str.ofString "do").cps.toList=[100,111]:=a'
theorem Qbb:(Str.ofString "back").cps.toList=[98,97,99,107]:=a'
theorem Qal:(Str.ofString "part ").cps.toList=[112,97,114,116,32]:=a'
theorem Qaa:(Str.ofString "part").cps.toList=[112,97,114,116]:=a'
theorem jn1(s a:Str):Str.join s [a]=a:=rfl
theorem sgc(c:Nat):(sg c).cps.toList=[c]:=rfl
theorem Kh{a b:Str}(h:ju8):a=b:=Sp.ext h
set_option hygiene false in
theorem QdB{bs ws la:aD}{l:Ln}{h:MH}(f:∀x∈bs,Nm x)(hw:∀x∈ws,Nm x)(r:∀x∈la,Nm x)(D:o0):JJ [Qz l] h=zD6:=by
 refine QC (g:=[]) aF ?_ rfl;cases D with
 | plain C=>
  cases C with
  | @pair x w y z b p m B=>
   have i:=pM b;have j:=Qs0 (zs:=[w,y,z]) (h:=[]) (by intro a v;simp at v;rcases v with rfl|rfl|rfl<;>first|exact nm8 (f _ Ao)|exact nm8 (hw _ Ao)) aF
   have I:(Str.join fU [w,y,z]).length<=26:=by
    have H:=nm8 (hw _ p);have G:=pM m;have F:=pM B;rw[join_cons2,join_cons2,jn1,Wp,Wp,Wp,Wp];have:(sg 32).length=1:=rfl;omega
   have c:=U0 (x:=x) (y:=" = pair ") (h:=[]) bL aA;have d:=U0 (x:=x++" = pair ") (y:=Str.join fU [w,y,z]) (h:=[]) (by rw[Wp];have:(Str.ofString " = pair ").length=8:=aA;omega) bL
   have e:x++" = pair "++Str.join fU [w,y,z]=Yj Bm:=by
    show uY
   simp at j;simp[Zz,QN,Qz,Qkx,c,d,j,e]
  | @first x y b m=>
   have n:zt5:=a'
   have o:(Str.ofString "first").length=5:=a'
   have A:Hm:=a'
   have i:=pM b;have u:=pM m;have c:=U0 (x:=x) (y:=" = ") (h:=[]) bL aA;have d:=U0 (x:=rP) (y:="first") (h:=[]) Bd aA;have t:=U0 (x:=rP++"first") (y:=" ") (h:=[]) (by rw[Wp,Wp];omega) aA;have s:=U0 (x:=rP++"first"++" ") (y:=y) (h:=[]) jw4 bL
   have e:rP++"first"++" "++y=Yj BI:=by
    show uY
   simp[Zz,QN,Qz,c,d,t,s,e]
  | @second x y b m=>
   have n:zt5:=a'
   have o:(Str.ofString "second").length=6:=a'
   have A:Hm:=a'
   have i:=pM b;have u:=pM m;have c:=U0 (x:=x) (y:=" = ") (h:=[]) bL aA;have d:=U0 (x:=rP) (y:="second") (h:=[]) Bd aA;have t:=U0 (x:=rP++"second") (y:=" ") (h:=[]) (by rw[Wp,Wp];omega) aA;have s:=U0 (x:=rP++"second"++" ") (y:=y) (h:=[]) jw4 bL
   have e:rP++"second"++" "++y=Yj BA:=by
    show uY
   simp[Zz,QN,Qz,c,d,t,s,e]
  | @same x y b m=>
   have n:zt5:=a'
   have i:=pM b;have u:=pM m;have c:=U0 (x:=x) (y:=" = ") (h:=[]) bL aA;have d:=U0 (x:=rP) (y:=y) (h:=[]) Bd bL
   have e:rP++y=Yj BS:=by
    show uY
   show zf3
  | @none x b=>
   have n:(Str.ofString " = none").length=7:=a'
   have i:=pM b;have c:=U0 (x:=x) (y:=" = none") (h:=[]) bL aA
   have e:x++" = none"=Yj A2:=by
    show uY
   simp[Zz,QN,Qz,c,e]
  | @tell x b=>
   have n:(Str.ofString "tell").length=4:=a'
   have o:Hm:=a'
   have i:=pM b;have c:=U0 (x:=zx9) (y:=" ") (h:=[]) bL aA;have d:=U0 (x:=zx9++" ") (y:=x) (h:=[]) Bd bL
   have e:zx9++" "++x=Yj zj0:=by
    show uY
   show zf3
 | @«do» x b=>
  have n:(Str.ofString "do").length=2:=a'
  have o:Hm:=a'
  have i:=nm8 (r _ b);have c:=U0 (x:=SX) (y:=" ") (h:=[]) bL aA;have d:=U0 (x:=SX++" ") (y:=x) (h:=[]) Bd bL
  have e:SX++" "++x=Yj ["do",x]:=by
   show uY
  show zf3
 | @back x b=>
  have n:(Str.ofString "back").length=4:=a'
  have o:Hm:=a'
  have i:=nm8 (hw _ b);have c:=U0 (x:=SG) (y:=" ") (h:=[]) bL aA;have d:=U0 (x:=SG++" ") (y:=x) (h:=[]) Bd bL
  have e:SG++" "++x=Yj zj1:=by
   show uY
  show zf3
 |@blk x b=>
  have e:x=Yj [x]:=rfl
  rcases b with rfl|rfl|rfl|rfl<;>simp[Zz,QN,Qz,<-e]
def GL(l:Ln):Prop:=∃bs a b:aD,(∀x∈bs,Nm x)/\(∀x∈a,Nm x)/\(∀x∈b,Nm x)/\LineOk bs a b l
theorem QmT{l:Ln}{h:MH}(g:GL l):JJ [Qz l] h=zD6:=let⟨_,_,_,a,b,c,d⟩:=g;QdB a b c d
noncomputable def Qbe(x:Str):Str:=Str.ofString "part "++x
noncomputable def UM(x:Pt):aD:=Qbe x.1::x.2.map Yj
noncomputable def Zx(p:c8):aD:=p.flatMap UM
noncomputable def YY(p:c8):Str:=Str.join xE (Zx p)
theorem QeV(l:Ln):unL pV=l:=by
 show(l.map W.str).map unS=l;rw[El];exact List.map_id'' P5 l
structure RP(p:c8):Prop where
 nm:∀x∈p,uV
 ln:∀x∈p,∀l∈x.2,GL l
 sz:zd1<=5000
theorem QfO{m:FM}{ls:d4}{i:Nat}{σ:MSt}{h:MH}(hi:QP D' σ h=sO (uC,nO,h))(e:∃o,Qd3 [nO] σ=[o])(c:∀l∈ls,m [Qz l] h=zD6)(d:ls.length<=10000) :
  Zc Jd (QP D') [nO] d9 KS (QD 1 m (Qb aE Ql)) σ h=sO (.lst ((ls.map Yj).map .str),h):=by
 have z:=Mi.Vo (fin:=Jd) (mi:=QP D') (cp:=[nO]) (me:=QD 1 m (Qb aE Ql)) (σ:=σ) (caps:=[]) (h:=h) (items:=uC) (λw=>.str (Yj (unL w))) hi e (λw hw=>by
  show l0 l a
  simp[c l a,QeV]) (by rw[Nz];exact KY (Nv (Nk d aA)))
 rw[z];simp[Jd,QeV]
theorem QeM{p:c8}{j:Nat}{x:Pt}(a:p[j]?=sO x):Zx M4=Zx oK++UM x:=by
 rw[Ez,a];simp[Zx]
theorem Qa1{p:c8}(j:Nat):(Zx oK).length<=zd1:=by
 have a:Zx p=Zx oK++Zx (p.drop j):=by simp only[Zx];rw[<-IW,DS]
 have:=HD a;simp only[Nw]at this;exact Ng dZ yY
theorem QbX{p:c8}{h:MH}(g:RP p):Vh pY h=sO (.lst ((Zx p).map .str),h):=by
 have A:=g.sz
 have a:=JD (items:=lH p) (b:=ZS [2,3]) (body:=Kj) (λj f h=>∃d c,f=[bU p,sO (.lst ((Zx oK).map .str)),d,c]/\h=[]) (g9 p) 0 [bU p,sO jD,nO,nO] [] ⟨nO,nO,by simp[Zx],rfl⟩ (by
  show zl9 t f h d c
  rw[Nx]at t;show l8 x o t;rw[NU]at *;have s:=N0 o;have r:=QeM o;have n:=Qa1 (p:=p) (j+1);rw[r,Nw]at n;have H:(UM x).length=iW+1:=by simp[UM]
  have F:(Zx oK).length+1<=sizeLine:=KY aQ;have E:(Zx oK).length+1+iW<=sizeLine:=KY aQ;have z:=nm8 (g.nm x s);have D:jo7+x.1.length<=sizeLine:=Ng (DZ (a':jo7<=5) z) aA;have u:=QfO (m:=JJ) (ls:=x.2) (i:=3) (σ:=[bU p,sO (.lst ((Zx oK).map .str)),n6 x,p0 x]) (h:=[]) rfl cN (λl B=>QmT (g.ln x s l B)) aQ;refine⟨[bU p,sO (.lst ((Zx oK).map .str)),n6 x,p0 x],by simp[ZS,Zm,W7],[bU p,sO (.lst ((Zx M4).map .str)),n6 x,p0 x],[],j0,_,_,rfl,rfl⟩;rw[r];generalize Zx oK=y at *;simp at u
  simp[D,F,u,E,UM,Qbe])
 obtain⟨v,I,e,d,c,rfl,rfl⟩:=a;rw[Nz,NU,EM]at e;have ei:QP aE [bU p,sO jD,nO,nO] []=sO (lH p,nO,[]):=rfl
 have C:JX (QP aE) nA Kj [bU p,sO jD,nO,nO] []=sO (.nx [bU p,sO (.lst ((Zx p).map .str)),d,c] []):=by
  show sX e
 refine QC (g:=[]) aF ?_ aF;generalize Zx p=y at *;simp[KE,QN,C]
def Pw(y:Str):Prop:=∀c∈y.cps.toList,61<=c/\c<=122
theorem Qrl{x:Str}(h:Nm x):Pw x:=λc a=>by have:=h.sm c a;lia
noncomputable def pwB(y:Str):Bool:=y.cps.toList.all λc=>decide (61<=c)&&zL2
theorem Qq7{y:Str}(h:pwB y=true):Pw y:=λc a=>by
 have:=NV.mp h c a;show iA
theorem Qfg{y:Str}{k:Nat}(h:Pw y)(a:k<61):fre k y:=λb=>by have:=h k b;exact EU this.1 a
def Wo(y:Str):Prop:=Pw y/\y.length<=8
theorem UZ{x:Str}(h:Nm x):Wo x:=⟨Qrl h,h.hi⟩
theorem UY{y:Str}(h:(pwB y&&HY y)=true):Wo y:=by
 rw[NL]at h;exact⟨Qq7 h.1,zD7⟩
theorem QmB{l:Ln}(g:GL l):(∀y∈wl l,Wo y)/\wl l≠[]/\(wl l).length<=6:=by
 obtain⟨bs,n,o,d,hw,h,m⟩:=g;cases m with
 | plain j=>
  cases j with
  |@pair x w y z c i f p=>
   have e:wl Bm=[x,"=","pair",w,y,z]:=rfl;rw[e];exact⟨by show qV;rcases b with rfl|rfl|rfl|rfl|rfl|rfl<;>first|exact UY aA|exact Bn|exact UZ (hw _ Ao),aY,aY⟩
  |@first x y c f=>
   have e:wl BI=[x,"=","first",y]:=rfl;rw[e];exact⟨by show qV;rcases b with rfl|rfl|rfl|rfl<;>first|exact UY aA|exact Bn,aY,aY⟩
  |@second x y c f=>
   have e:wl BA=[x,"=","second",y]:=rfl;rw[e];exact⟨by show qV;rcases b with rfl|rfl|rfl|rfl<;>first|exact UY aA|exact Bn,aY,aY⟩
  |@same x y c f=>
   have e:wl BS=[x,"=",y]:=rfl;rw[e];exact⟨by show qV;rcases b with rfl|rfl|rfl<;>first|exact UY aA|exact Bn,aY,aY⟩
  |@none x c=>
   have e:wl A2=[x,"=","none"]:=rfl;rw[e];exact⟨by show qV;rcases b with rfl|rfl|rfl<;>first|exact UY aA|exact Bn,aY,aY⟩
  |@tell x c=>
   have e:wl zj0=[("tell":Str),x]:=rfl;rw[e];exact⟨by show qV;rcases b with rfl|rfl<;>first|exact UY aA|exact Bn,aY,aY⟩
 |@«do» x c=>
  have e:wl ["do",x]=[zj3,x]:=rfl;rw[e];exact⟨by show qV;rcases b with rfl|rfl<;>first|exact UY aA|exact UZ (h _ Ao),aY,aY⟩
 |@back x c=>
  have e:wl zj1=[("back":Str),x]:=rfl;rw[e];exact⟨by show qV;rcases b with rfl|rfl<;>first|exact UY aA|exact UZ (hw _ Ao),aY,aY⟩
 |@blk x c=>
  have e:wl [x]=[x]:=rfl;rw[e];exact⟨by show qV;subst b;rcases c with rfl|rfl|rfl|rfl<;>exact UY aA,aY,aY⟩
theorem Xz(c:Nat):∀(zs:aD),(Str.join eM zs).length<=(zs.map (·.length)).sum+zs.length
 |[]=>Eg _
 |[a]=>by rw[jn1];simp
 |a::b::r=>by
  have:=Xz c Au;rw[join_cons2,Wp,Wp,show Mu=1 from rfl];simp only[NA,OW,N6]at this ⊢;lia
theorem Qe8{k:Nat}{x y:Str}(b:fre k x)(a:fre k y):fre k (x++y):=λh=>by
 rw[Sp.app_cps]at h;exact(NQ.mp h).elim b a
theorem QoC{k c:Nat}(h:k≠c):fre k eM:=λz=>h (by rw[sgc]at z;exact j2 z)
theorem GE{k c:Nat}(h:k≠c):∀(zs:aD),(∀y∈zs,fre k y)->fre k (Str.join eM zs)
 |[],_=>λz=>fN z
 |[a],hz=>by rw[jn1];exact hz a aF
 |a::b::r,hz=>by
  rw[join_cons2];exact Qe8 (Qe8 (hz a aF) (QoC h)) (GE h Au λy d=>hz y (Nt _ d))
theorem QaL{zs:aD}(h:∀y∈zs,Wo y)(b:zs.length<=6):(Str.join fU zs).length<=54:=by
 have d:=Xz 32 zs;have c:=QjM (l:=zs) λy a=>(h y a).2;lia
theorem YH{c:Nat}{ps:aD}{h:MH}(d:c<256)(a:ps≠[])(b:∀y∈ps,xF)(h1:(Str.join eM ps).length<=sizeLine)(f:ps.length<=sizeLine):Jm (.str (Str.join eM ps)) [.str eM] h=sO (.lst (ps.map .str),h):=by
 have e:=Gg d a b;show(if Mu≠0/\(Str.join eM ps).length<=sizeLine/\(Txt.split (Str.join eM ps) eM).length<=sizeLine then sO (W.lst ((Txt.split (Str.join eM ps) eM).map .str),h)else nO)=_;rw[e,if_pos ⟨by show(1:Nat)≠0;decide,h1,f⟩]
theorem Uv{zs:aD}{h:MH}(hz:∀y∈zs,Wo y)(c:zs≠[])(a:zs.length<=6):Jm (.str (Str.join fU zs)) [.str B9] h=sO (.lst qU,h):=by
 rw[Qgq];exact YH aA c (λy b=>Qfg (hz y b).1 aA) (Ng (QaL hz a) aA) (Ng a aA)
theorem YL(x:Str):Qbe x=Str.join fU ["part",x]:=by
 refine Kh ?_;simp[Qbe,join_cons2,jn1,Sp.app_cps,sgc,Qal,Qaa]
theorem Gu{x:Str}(h:Nm x):∀y∈([("part":Str),x]),Wo y:=by
 show qV;show BZ b
 ·exact UY aA
 ·exact UZ h
theorem Qhy{x:Str}{h:MH}(a:Nm x):QS [.lst [.str "part",aJ x]] h=sO (dM,h):=by
 refine QC (g:=[]) aF ?_ rfl;simp[QZ,QN,Qew a]
theorem QjV{l:Ln}{h:MH}(g:GL l):QS [.lst Tt] h=sO (iN,h):=by
 obtain⟨bs,e,f,i,hw,d,c⟩:=g;refine QC (g:=[]) aF ?_ rfl;cases c with
 |plain b=>cases b<;>simp[QZ,QN,wl,giv]
 |«do» a=>simp[QZ,QN,wl,giv]
 |back a=>simp[QZ,QN,wl,giv]
 |@blk x a=>simp[QZ,QN,wl]
theorem eqT{a b:aD}{h:MH}:wEq (.tup (gW a)) (.tup (gW b)) h=jw5:=by
 have d:∀a:aD,dep (.tup (gW a))<=40:=λa=>by
  show zI7;exact Nv (Nk this aA)
 rw[QoL Mb Mb (d a) (d b)]
 have:∀a b:aD,K5 (gW a) (gW b)=Db a b:=λa=>by
  induction a with
  |nil=>intro b;cases b<;>simp[K5]
  | cons x r c=>
   intro b;cases b with
   |nil=>simp[K5]
   |cons y s=>
    rw[NA,NA,K5,c,DF];simp[eqW]
 rw[show eqW (.tup (gW a)) (.tup (gW b))=K5 (gW a) (gW b) by simp[eqW],this]
theorem in3{x:Str}{h:MH}:wIn false cM (.tup [.str "pair",.str "first",.str "second"]) h=sO (.bl (decide (x∈AO)),h):=(Gc (g:=false) (x:=x) (l:=["pair","first","second"]) (h:=h)).trans aF
theorem YA{k x y:Str}{r:aD}{h:MH}(d:k∈AO)(f:r.length<=100):Zr [aJ x,.tup (aJ k::aJ y::rD)] h=sO (.tup (aJ k::aJ x::aJ y::rD),h):=by
 refine QC (g:=[]) aF ?_ aF
 have e:wEq (.tup (aJ k::aJ y::rD)) SN []=sO (iN,[]):=by
  have:=eqT (a:=k::y::r) (b:=w9) (h:=[]);rw[decide_eq_false aF]at this;show iA
 have z:2+(eY r)<=sizeLine:=Ng (aU:_<=200) aA;have c:=zO4 k;rw[oF d]at c;simp[Zv,QN,e,c,Qro,z]
theorem QbB{x:Str}{h:MH}:Zr [aJ x,.tup [zh1]] h=sO (.tup [zh1,aJ x],h):=by
 refine QC (g:=[]) aF ?_ aF
 have c:wEq SN SN []=sO (dM,[]):=by
  have:=eqT (a:=w9) (b:=w9) (h:=[]);rw[decide_eq_true rfl]at this;show iA
 simp[Zv,QN,c]
theorem QbA{x y:Str}{h:MH}(d:Nm y):Zr [aJ x,.tup [aJ y]] h=sO (.tup [.str "same",aJ x,aJ y],h):=by
 refine QC (g:=[]) aF ?_ aF;have f:y≠"none":=λz=>d.kp (by rw[z];decide);have e:y∉AO:=λz=>d.kp (by simp at z;rcases z with rfl|rfl|rfl<;>decide)
 have i:wEq (.tup [aJ y]) SN []=sO (iN,[]):=by
  have:=eqT (a:=[y]) (b:=w9) (h:=[]);rw[decide_eq_false (kS f)]at this;show iA
 have c:=zO4 y;rw[qQ e]at c;simp[Zv,QN,i,c,sz3]
theorem Qc7{l:Ln}{h:MH}(g:GL l):QL [.lst Tt] h=zh4:=by
 obtain⟨bs,o,p,i,hw,e,f⟩:=g;have lo:=Qj1 (h:=[]) i hw e f;refine QC (g:=[]) aF ?_ aF;cases f with
 | plain m=>
  cases m with
  |@pair x w y z c j d s=>
   have a:=YA (k:="pair") (x:=x) (y:=w) (r:=[y,z]) (h:=[]) aA aF;show Hb
  |@first x y c d=>
   have a:=YA (k:="first") (x:=x) (y:=y) (r:=[]) (h:=[]) aA aF;show Hb
  |@second x y c d=>
   have a:=YA (k:="second") (x:=x) (y:=y) (r:=[]) (h:=[]) aA aF;show Hb
  |@same x y c d=>
   have a:=QbA (x:=x) (h:=[]) (i y d);show Hb
  |@none x c=>
   have a:=QbB (x:=x) (h:=[]);show Hb
  |@tell x c=>
   have b:=YG (x:="tell") (y:=x) (r:=[]) (h:=[]) rfl;rw[if_neg aA]at b;show zt0
 |@«do» x c=>
  have b:=YG (x:="do") (y:=x) (r:=[]) (h:=[]) rfl;rw[if_neg aA]at b;show zt0
 |@back x c=>
  have b:=YG (x:="back") (y:=x) (r:=[]) (h:=[]) rfl;rw[if_neg aA]at b;show zt0
 |@blk x c=>
  have n:x∉giv:=by rcases c with rfl|rfl|rfl|rfl<;>decide
  have b:=Qdy (h:=[]) n;simp[Qz]at lo;simp[QJ,QN,wl,Qz,lo,b]
noncomputable abbrev Ev:=Str ⊕ Ln
noncomputable def evs(p:c8):uK:=p.flatMap λx=>.inl x.1::x.2.map .inr
noncomputable def evR:Ev->Str
 |dU n=>Qbe n
 |gY l=>Yj l
noncomputable def evW:Ev->aD
 |dU n=>["part",n]
 |gY l=>wl l
noncomputable def Qhc(bs:qT)(l:Ln):qT:=bs.dropLast++[bs.getLastD []++[l]]
noncomputable def stp(q:aD×qT):Ev->aD×qT
 |dU n=>(q.1++[n],q.2++[[]])
 |gY l=>(q.1,Qhc q.2 l)
noncomputable def bld(es:uK):aD×qT:=es.foldl stp ([],[])
theorem WK(es:uK)(e:Ev):bld (es++[e])=stp (bld es) e:=ze4
theorem Qbc(bs:qT)(b:d4)(l:Ln):Qhc (bs++[b]) l=bs++[b++[l]]:=by simp[Qhc]
theorem QjX:∀(es:uK),es≠[]->(bld es).2≠[]:=by
 refine XW (λh=>nE h) λL e a _=>?_;rw[WK];cases e with
 |inl n=>simp[stp]
 |inr l=>simp[stp,Qhc]
theorem QdH:∀(ls:d4) (ns:aD) (bs:qT) (b:d4),(ls.map (Sum.inr:Ln->Ev)).foldl stp (ns,bs++[b])=(ns,bs++[b++ls]):=by
 intro ls
 induction ls with
 |nil=>
  intro ns bs b;simp
 |cons l ls a=>
  intro ns bs b;rw[NA,Fi,show stp (ns,bs++[b]) (.inr l)=(ns,bs++[b++[l]])from by show(ns,Qhc (bs++[b]) l)=_;rw[Qbc],a];simp
theorem QiM:∀(p:c8) (ns:aD) (bs:qT),(evs p).foldl stp (ns,bs)=(ns++p.map (·.1),bs++p.map (·.2)):=by
 intro p
 induction p with
 |nil=>
  intro ns bs;simp[evs]
 |cons x p a=>
  intro ns bs;have e:evs (x::p)=(.inl x.1::x.2.map .inr)++evs p:=by simp[evs]
  rw[e,Yav,Fi,show stp (ns,bs) (.inl x.1)=(ns++[x.1],bs++[[]])from rfl,QdH,a];simp
theorem QfE(p:c8):bld (evs p)=(p.map (·.1),p.map (·.2)):=by
 show(evs p).foldl stp ([],[])=_;rw[QiM];simp
theorem WI(p:c8):(evs p).map evR=Zx p:=by
 unfold evs Zx;rw[List.map_flatMap];congr 1;funext x;simp[UM,evR]
noncomputable def QiP:Ev->Prop
 |dU n=>Nm n
 |gY l=>GL l
theorem Qe4{p:c8}(g:RP p):∀e∈evs p,QiP e:=λe d=>by
 obtain⟨x,a,b⟩:=LM.mp d
 show Ma b
 ·exact g.nm x a
 ·show p8 l c z;exact g.ln x a l c
theorem Qct{e:Ev}(h:QiP e){hh:MH}:Jm (.str Rj) [.str B9] hh=sO (.lst ((evW e).map .str),hh):=by
 cases e with
 |inl n=>
  show Jm (.str (Qbe n)) _ hh=_;rw[YL];exact Uv (Gu h) aF aF
 |inr l=>
  show zy8;exact Uv a b c
theorem Qpo{e:Ev}(h:QiP e):fre 10 Rj/\(evR e).length<=54:=by
 cases e with
 |inl n=>
  show fre 10 (Qbe n)/\(Qbe n).length<=54;rw[YL];exact⟨GE aA _ λy d=>Qfg (Gu h y d).1 aA,QaL (Gu h) aF⟩
 |inr l=>
  show zy8;exact⟨GE aA _ λy d=>Qfg (a y d).1 aA,QaL a c⟩
theorem Qra:∀(zs:aD),(∀y∈zs,y.length<=54)->(zs.map (·.length)).sum<=54*zs.length:=by
 intro zs
 induction zs with
 |nil=>
  intro _;simp
 |cons x r a=>
  intro h;have d:=h x aF;have c:=a (iV y b h);simp;lia
theorem Qdg{p:c8}(g:RP p):(∀y∈Zx p,Ra/\y.length<=54)/\((Zx p).map (·.length)).sum+zd1*1<=16777216:=by
 have b:∀y∈Zx p,Ra/\y.length<=54:=λy a=>by
  rw[<-WI]at a;show p8 e c a;exact Qpo (Qe4 g e c)
 have d:=Qra (Zx p) λy a=>(b y a).2;have:=g.sz;exact⟨b,aU⟩
noncomputable def rH(q:aD×qT):MH:=.lst (q.1.map .str)::.lst ((List.range q.2.length).map λi=>r9)::q.2.map λb=>.lst P6
noncomputable abbrev rS(t:Str)(b a x5 x6:cH):MSt:=[bA t,cE,sO gI,b,a,x5,x6,nO]
theorem QhA(n:Nat):atI ((List.range (n+1)).map λi=>r9) (-1)=sO (.ref (n+2)):=by
 unfold atI ixN;rw[if_neg aA,if_pos BE,Ni,Nx];have e:((-1:Int)+(((List.range (n+1)).map λi=>r9).length:Int)).toNat=n:=zg4
 rw[e,De uP];rfl
theorem Qf3{es:uK}{j:Nat}{w:W}(h:(Jt AZ)[j]?=sO w):∃e,es[j]?=sO e/\w=.tup [aL j,.str Rj]:=by
 unfold Jt at h;rw[Nx,FG,Nx,Nx]at h;cases a:es[j]? with
 |none=>show rM a h
 |some e=>show rM a h;exact⟨e,rfl,by rw[<-h]⟩
theorem Qbo{t:Str}{q:aD×qT}{e:Ev}(g:QiP e)(v:(∃l,e=gY l)->q.2≠[])(h1:q.1.length<=5000)(z:q.2.length<=5000)(y:∀b∈q.2,b.length<=5000){j:Int}{x5 x6:cH} :
  ∃C,ZN (rS t (bG j) SY x5 x6) (rH q)=sO (.nx (rS t (bG j) SY (sO (.lst ((evW e).map .str))) C) (rH (stp q e))):=by
 obtain⟨a,bs⟩:=q;simp only at h1 z y v;have c:=λw=>Qct g (hh:=w);cases e with
 | inl n=>
  have p:=λh=>Qhy (x:=n) (h:=h) g;have m:Tw:=Nk h1 aA;have A:bs.length<sizeLine:=Nk z aA;show Aq x6;generalize evR (iS n)=o at c;simp only[evW,NA,D4]at c
  have s:rH (stp (a,bs) (iS n))=.lst (a.map .str++[aJ n])::.lst ((List.range bs.length).map (λi=>r9)++[.ref (bs.length+2)])::(bs.map vF++[bN]):=by
   simp[rH,stp,L6]
  rw[s];simp[rS,rH,c,p,m,A,tyW,evW]
 | inr l=>
  show jf5 p D;obtain⟨B,b,rfl⟩:∃B b,bs=B++[b]:=⟨bs.dropLast,bs.getLast (v (hL l)),No⟩
  have m:b.length<sizeLine:=Nk (y b aF) aA;have u:=QhA B.length;refine⟨sO pV,?_⟩;generalize evR (.inr l)=o at c
  have s:rH (stp (a,B++[b]) (.inr l))=c7 a::.lst ((List.range (eY B)).map (λi=>r9))::(B.map vF++[.lst zB7]):=by
   simp[rH,stp,Qbc]
  have F:rH (a,B++[b])=c7 a::.lst ((List.range (eY B)).map (λi=>r9))::(B.map vF++[.lst P6]):=by
   simp[rH]
  have d:((List.range (eY B)).map (λi=>r9))≠[]:=aY
  rw[s,F];have f:(B.map vF).length=B.length:=aY
  generalize B.map vF=BB at f;generalize(List.range (eY B)).map (λi=>r9)=G at u d;rw[<-f]at u;have r:Yi pV=false:=rfl;have E:(evW (.inr l))=wl l:=rfl;rw[E]at c ⊢;have gt:(BB++[MO.lst P6])[BB.length]?=sO (BO b):=aY
  have st:(BB++[MO.lst P6]).set BB.length (.lst zB7)=BB++[.lst zB7]:=aY
  simp[rS,c,p,D,r,QjL,d,u,gt,st,m,tyW]
theorem Qku{j:Type}{fin:aH->MH->bJ}{items:aH}{src:rC}{me:ME}{b:MG}{mt:MT}{h:MH}(i:j->W)(e:p5)(P:zm0)(g:j->Bool)(f:j->W):∀(xs:gN j) (a:aH) (d:MSt),P d->(∀x∈xs,∀d,P d->∃c,b (i x) d h=sO c/\P c/\mt c h=sO (g x,h)/\(g x=true->me c h=xD x))->a.length+xs.length<=sizeLine->XQ fin items src b mt me (xs.map i) a d h=fin (a++(xs.filter g).map f) h:=by
 intro xs
 induction xs with
 |nil=>
  intro a d _ _ _;rw[D4];unfold XQ;rw[bW e];simp
 | cons x xs p=>
  intro a d r m t;have s:a.length+(xs.length+1)<=sizeLine:=cL t
  obtain⟨c,w,o,v,u⟩:=m x NG d r;rw[NA];unfold XQ;rw[bW e,w,Ni,v,Ni];cases n:g x with
  |true=>
   simp only[u n,Ni];rw[if_pos aQ,p (a++[f x]) c o (mZ y l m) BE];simp[n]
  |false=>
   simp only;rw[p a c o (mZ y l m) aQ];simp[n]
theorem Qe3{d:Type}{fin:aH->MH->bJ}{mi:MI}{cp:lU}{src:rC}{b:MG}{mt:MT}{me:ME}{σ:MSt}{h:MH}{xs:gN d}(c:d->W)(P:zm0)(g:d->Bool)(f:d->W)(hi:mi σ h=sO (xs.map c,src,h))(e:live src (xs.map c) h)(m:P (Qd3 cp σ))(j:∀x∈xs,∀i,P i->∃a,b (c x) i h=sO a/\P a/\mt a h=sO (g x,h)/\(g x=true->me a h=xD x))(l:yI):Zc fin mi cp b mt me σ h=fin ((xs.filter g).map f) h:=by
 unfold Zc;rw[hi,Ni,Qku c e P g f xs [] _ m j (cD l)];simp
theorem QgE:∀(es:uK),(bld es).1.length<=es.length/\(bld es).2.length<=es.length/\∀b∈(bld es).2,b.length<=es.length:=by
 refine XW ⟨ze4,ze4,ze4⟩ (aP L e i);show fH g f d i;rw[WK,Nw,NX];cases e with
 |inl n=>
  refine⟨by show((bld L).1++[n]).length<=_;simp;exact g,by show(zm1++[[]]).length<=_;simp;exact f,bQ b c⟩
  show tX c z
  ·have:=d b z;exact Ng this dZ
  ·rw[j2 z];simp
 | inr l=>
  refine⟨by show(bld L).1.length<=_;exact Ng g dZ,?_,bQ b c⟩
  ·show(Qhc zm1 l).length<=_;simp[Qhc];exact Ng f dZ
  ·show tX c z
   ·have:=d b ((List.dropLast_sublist _).subset z);exact Ng this dZ
   ·rw [j2 z,Nw,NX]
    have:((bld L).2.getLastD []).length<=L.length:=by
     cases h:zm1 with
     |nil=>simp
     | cons x r=>
      rw[Li]
      have j:(r.getLastD x)∈zm1:=by
       rw[h];cases r with
       |nil=>simp
       |cons y r=>rw[Li];exact Nt _ (by rw[<-Li (a:=x),List.getLastD_eq_getLast?,List.getLast?_eq_getLast aF];exact List.getLast_mem _)
      exact d _ j
    exact OK this _
theorem Qbt(Q:c8):Qen ((Q.map (·.1)).map .str) G'=(List.range Q.length).map λi=>match Q[i]? with|gA x=>jr6|none=>.non:=by
 unfold Qen;show jm6 h
 ·rw[De h]
  have e:(((Q.map (·.1)).map W.str).zip G')[i]?=sO (.str Q[i].1,.ref (i+2)):=by
   rw[DX];simp[h]
  rw[e];simp[h]
 ·have b:(((Q.map (·.1)).map W.str).zip G')[i]?=nO:=zy0 h;have a:(List.range Q.length)[i]?=nO:=zy0 h;rw[b,a];rfl
theorem Qmh{Q:c8}{h:MH}(g:RP Q)(C:Q≠[])(hp:∀h,Q2 [Zb Q] h=sO (dM,h)):JC [.str uR] h=sO (Zb Q,h):=by
 obtain⟨f1,f2⟩:=Qdg g;have A:=g.sz;have F:(evs Q).length=(Zx Q).length:=by rw[<-WI];simp
 have M:Zx Q≠[]:=by
  obtain⟨x,r,rfl⟩:∃x r,Q=x::r:=by cases Q with
   |nil=>exact nE C
   |cons a b=>exact BV
  simp[Zx,UM]
 have first:∀e,(evs Q)[0]?=sO e->∃n,e=dU n:=λe m=>by
  cases Q with
  |nil=>exact nE C
  |cons x r=>simp[evs]at m;exact⟨x.1,m.symm⟩
 have v:=JD (items:=Jt yL) (b:=ZS [3,4]) (body:=ZN) (λj I h=>∃p o d c,I=rS uR p o d c/\h=rH (bld zG2)) (Jt yL) 0 So [bN,bN] jw6 (by
  rintro j w U I h ⟨p,o,d,c,rfl,rfl⟩
  rw[<-WI]at U;obtain⟨e,m,rfl⟩:=Qf3 U;rw[NU]at *;have ht:(evs Q).take (j+1)=(evs Q).take j++[e]:=zI m
  have D:=cG m;obtain⟨l1,l2,Z⟩:=QgE zG2;rw[EL]at l1 l2
  obtain⟨y6,e1⟩:=Qbo (t:=YY Q) (q:=bld zG2) (Qe4 g e (N0 m)) (λ⟨l,T⟩=>QjX _ λz=>by
   have N:j=0:=by
    show jt8
    ·show rM q D
   subst N;obtain⟨n,hn⟩:=first e m
   rw[hn]at T;cases T) aQ aQ (λb hb=>by have:=Z b hb;rw[EL]at this;lia) (j:=kT) (x5:=d) (x6:=c)
  refine⟨rS uR (bG j) SY d c,Mk,_,_,dU e1,_,_,_,_,rfl,by rw[ht,WK]⟩)
 obtain⟨X,h',e,p,o,d,c,rfl,rfl⟩:=v;have E:0+(Jt yL).length=(evs Q).length:=by rw[F];simp[Jt]
 rw[E,EM,QfE]at e
 have R:∀u,Jm (.str uR) [.str SZ] u=sO (.lst yL,u):=λu=>by
  rw[Qi3];exact YH aA M (λy hy=>(f1 y hy).1) (by have:=Xz 10 (Zx Q);exact Ng (aU:_<=16777216) aA) (Ng A aA)
 have ei:Kl (Qb (mMt "str" Jm aE sS) Ql) So [bN,bN]=sO (Jt yL,nO,[bN,bN]):=by
  have:Qb (mMt "str" Jm aE sS) Ql So [bN,bN]=sO ([.lst yL],[bN,bN]):=by
   simp[rS,R,tyW]
  unfold Kl;show mD
 have H:JX (Kl (Qb (mMt "str" Jm aE sS) Ql)) u4 ZN So [bN,bN]=sO (.nx (rS uR p o d c) (rH (Q.map (·.1),Q.map (·.2)))):=by
  show sX e
 have P:Q.length<=5000:=by
  have:=QgE (evs Q);rw[QfE]at this;show k7;exact Ng (Ng this.1 (Nu F)) A
 have eh:rH (Q.map (·.1),Q.map (·.2))=.lst ((Q.map (·.1)).map .str)::.lst G'::(Q.map (·.2)).map vF:=by simp[rH]
 have G:Zc Jd (Qak (Qb aK (Qb aV Ql))) rZ P4 KS (mFn Xf (Qb aE (Qb (mFn J8 (Qb aK Ql)) Ql))) (rS uR p o d c) (rH (Q.map (·.1),Q.map (·.2)))=sO (.lst (g9 Q),rH (Q.map (·.1),Q.map (·.2))):=by
  rw[eh]
  have:=Qe3 (fin:=Jd) (mi:=Qak (Qb aK (Qb aV Ql))) (cp:=rZ) (src:=sO (.z 0 1 ((Q.map (·.1)).map W.str).length ((List.range Q.length).map λi=>r9).length)) (b:=ZS [0,1]) (mt:=KS) (me:=mFn Xf (Qb aE (Qb (mFn J8 (Qb aK Ql)) Ql))) (σ:=rS uR p o d c) (h:=.lst ((Q.map (·.1)).map .str)::.lst G'::(Q.map (·.2)).map vF) (xs:=List.range Q.length) (λi=>match Q[i]? with|gA x=>jr6|none=>.non) (λS=>∃a b,S=[a,b]) (λ_=>true) (λi=>match Q[i]? with|gA x=>Zm x|none=>.non)
   (by rw[<-Qbt];rfl) (λs hs=>by
    cases hs;refine⟨_,_,rfl,rfl,?_,rfl,rfl⟩;exact Qbt Q) ⟨nO,nO,rfl⟩ (λi f S J=>by
    obtain⟨a,b,rfl⟩:=J;have O:=Ek.mp f;have L:Q[i]?=sO Q[i]:=Nl O;generalize Q[i]=x at L;simp only[L];have u:((Q.map (·.2)).map vF)[i]?=sO (.lst (CP x)):=by rw[Nx,Nx,L];rfl
    refine⟨[n6 x,sO (.ref (i+2))],Mk,MC,rfl,λ_=>?_⟩;simp only[El]at u
    simp[u,Zm]) (by rw[DW];exact Ng P aA)
  rw[this];show sO (W.lst (((List.range Q.length).filter zk8).map _),_)=_;rw[O3.mpr zd3];congr 3;show jm6 f
  ·rw[De f,Nl f];simp[f]
  ·rw[zy0 f,Er (mI f)];rfl
 refine QC (g:=rH (Q.map (·.1),Q.map (·.2))) aF ?_ aF;have B:∀h,Q2 [.tup (g9 Q)] h=sO (dM,h):=hp;have eP:Zb Q=.tup (g9 Q):=rfl;rw[eP];unfold Xh;generalize JX (Kl (Qb (mMt "str" Jm aE sS) Ql)) u4 ZN=fo at H;generalize Zc Jd (Qak (Qb aK (Qb aV Ql))) rZ P4 KS (mFn Xf (Qb aE (Qb (mFn J8 (Qb aK Ql)) Ql)))=co at G;generalize rH (Q.map (·.1),Q.map (·.2))=HH at G H;generalize lH Q=QQ at G B;simp[rS]at H G;simp[QN,H,G,B]
def Rf(a:SM)(b:SMX):Prop:=∀c h r,a c h=sO r->b c h=sO (.f r)
theorem QfQ(a:SM):Rf a (okX a):=λb h r e=>by show(a b h).map MX.f=_;rw[e];rfl
theorem QlA(b:SMX):Rf QhH b:=λa h r e=>fN e
theorem Qgk{a b:SM}{g l:SMX}(n:Rf a g)(m:Rf b l):Rf (QG a b) (Qcu g l):=λi h r e=>by
 show fQ j o f e;show(g i h).bind _=_;rw[n i h j o,Ni];cases j with
 |nx c d=>exact m c d r f
 |rt w d=>cases f;rfl
 |bk c d=>cases f;rfl
 |ct c d=>cases f;rfl
theorem Qjr{t:MT}{a b:SM}{i g:SMX}(l:Rf a i)(j:Rf b g):Rf (Ju t a b) (Qmr t i g):=λc h r e=>by
 show cX z d m f e;show(t c h).bind _=_;rw[m,Ni];cases z with
 |true=>exact l c d r f
 |false=>exact j c d r f
theorem QkN:Rf ZN JS:=Qgk Rk (Qjr Rk (Qgk Rk (Qgk (Qjr (QlA _) Rk) Rk)))
theorem QnB(items:aH)(h:MH):live nO items h:=λ_ z=>fN z
theorem Qfx{items:aH}{b:MG}{body:SMX}(P:zD0):∀(d r2:aH) (n:Nat) (σ:MSt) (h:MH),P n σ h ->
  (∀(j:Nat) (w:W),d[j]?=sO w->∀σ h,P (n+j) σ h->∃σ1,zJ7/\∃a g,Pg=zi1 a g/\P (n+j+1) a g) ->
  ∃c h',Yg items nO b body (d++r2) σ h=Yg items nO b body r2 c h'/\zK2 d:=by
 intro d
 induction d with
 |nil=>
  intro r2 n σ h e _;exact⟨σ,h,rfl,e⟩
 | cons w r o=>
  intro r2 n σ h e i;obtain⟨σ1,u,a,g,t,m⟩:=i 0 w rfl σ h e
  obtain⟨c,h',s,l⟩:=o r2 (n+1) a g m λj x p σ h e=>by
   have:=i (j+1) x (cD p) σ h (zq9 e);show zn8
  refine⟨c,h',?_,by rw[N6,show n+(eY r)=n+1+r.length by lia];exact l⟩;rw[LJ,Yg,if_pos (QnB _ _),u,Ni,t,Ni];exact s
theorem Qhm(a b:aH):Jt (a++b)=Jt a++(b.zipIdx a.length).map zv5:=by
 unfold Jt;rw[List.zipIdx_append,Ed,NU]
theorem Qil{es:uK}(ok:∀e∈es,QiP e)(hsz:es.length<=2000)(first:∀e,es[0]?=sO e->∃n,e=dU n){t:Str}{items r2:aH}:∃c a x5 x6,Yg items nO u4 JS (Jt AZ++r2) Td [bN,bN]=Yg items nO u4 JS r2 (rS t c a x5 x6) Mn:=by
 obtain⟨p,D,e,c,a,x5,x6,rfl,rfl⟩:=Qfx (items:=items) (b:=ZS [3,4]) (body:=JS) (λj m h=>∃c a x5 x6,m=rS t c a x5 x6/\h=rH (bld (es.take j))) (Jt AZ) r2 0 Td [bN,bN] jw6 (by
  rintro j w y m h ⟨c,a,x5,x6,rfl,rfl⟩
  obtain⟨e,g,rfl⟩:=Qf3 y;rw[NU]at *;have v:es.take (j+1)=es.take j++[e]:=zI g
  have d:=cG g;obtain⟨u,s,r⟩:=QgE (es.take j);rw[EL]at u s
  obtain⟨C,B⟩:=Qbo (t:=t) (q:=bld (es.take j)) (ok e (N0 g)) (λ⟨l,o⟩=>QjX _ λz=>by
   have i:j=0:=by
    show jt8
    ·show rM q d
   subst i;obtain⟨n,x⟩:=first e g
   show bT x o) aQ aQ (λb A=>by have:=r b A;rw[EL]at this;lia) (j:=kT) (x5:=x5) (x6:=x6)
  exact⟨rS t (bG j) SY x5 x6,Mk,_,_,QkN _ _ _ B,_,_,_,_,rfl,by rw[v,WK]⟩)
 have f:0+(Jt AZ).length=es.length:=by simp[Jt]
 rw[f,EM]at e;exact⟨c,a,x5,x6,e⟩
structure BadR(x:Str):Prop where
 zs:∃zs:aD,(∀y∈zs,fre 32 y)/\zs≠[]/\zs.length<=200/\x=Str.join fU zs/\(∀h,QS [.lst qU] h=sO (iN,h))/\∀h,QL [.lst qU] h=zg1
 ln:x.length<=2000
 nl:fre 10 x
theorem Wi{a b:SMX}{σ σ1:MSt}{h h1:MH}(e:fJ a=zi1 σ1 h1):Qcu a b σ h=b σ1 h1:=by
 show T2 a
theorem Qce{a b:SMX}{σ:MSt}{h h1:MH}{x:Ex}(e:fJ a=sO (.ex x h1)):Qcu a b σ h=sO (.ex x h1):=by
 show T2 a
theorem QdT{a:SM}{σ:MSt}{h:MH}{r:MF}(e:fJ a=sO r):okX a σ h=sO (.f r):=by show(a σ h).map _=_;rw[e];rfl
theorem QjG{t:MT}{a b:SMX}{σ:MSt}{h h1:MH}(e:fJ t=sO (true,h1)):Qmr t a b σ h=a σ h1:=by show T2 t
theorem Qjm{t:MT}{a b:SMX}{σ:MSt}{h h1:MH}(e:fJ t=sO (false,h1)):Qmr t a b σ h=b σ h1:=by show T2 t
theorem Qi7{t x:Str}{hh:MH}{n:Nat}(r:n<=10000)(b:BadR x){x5 x6:cH}:JS (rS t (bG n) (sO cM) x5 x6) hh=sO (.ex ⟨1,sO eL⟩ hh):=by
 obtain⟨a,g,f,e,rfl,d,c⟩:=b.zs
 have i:Jm (.str (Str.join fU a)) [.str B9] hh=sO (c7 a,hh):=by
  rw[Qgq];exact YH aA f g (Ng b.ln aA) (Ng e aA)
 have p:(Q6 5 (mMt "str" Jm dF (Qb jN Ql))) (rS t (bG n) y7 x5 x6) hh=sO (.nx (rS t (bG n) y7 (sO (fL a)) x6) hh):=by
  simp[rS,i,tyW]
 have o:(KW (QD 1 QS gO)) (rS t (bG n) y7 (sO (fL a)) x6) hh=sO (false,hh):=by
  simp[rS,d]
 have m:(Q6 6 (QD 1 QL gO)) (rS t (bG n) y7 (sO (fL a)) x6) hh=sO (.nx (rS t (bG n) y7 (sO (fL a)) (sO .non)) hh):=by
  simp[rS,c]
 have l:(UW (QB (Qi wIs dY nG)) (VN (KW aV))) (rS t (bG n) y7 (sO (fL a)) (sO .non)) hh=sO (true,hh):=by
  simp[rS,Yi]
 have h:jw7:=by
  rw[Int.natAbs_natCast]
  by_cases z:n=0
  ·rw[z];decide
  ·exact Np ((Nat.log2_lt z).mpr (show n<2^14 by lia)) aA
 have j:QbC 1 (Qb cB Ql) (rS t (bG n) y7 (sO (fL a)) (sO .non)) hh=sO (.ex ⟨1,sO eL⟩ hh):=by
  show(if jw7 then sO (MX.ex ⟨1,sO eL⟩ hh)else nO)=_;rw[bW h]
 unfold JS;rw[Wi (QdT p),Qjm o,Wi (QdT m),Qce];rw[QjG l,j]
theorem QfB{rows:aD}(c:rows≠[])(d:∀y∈rows,Ra)(h1:(Str.join xE rows).length<=sizeLine)(e:rows.length<=sizeLine):Kl (Qb (mMt "str" Jm aE sS) Ql) (rS Sq nO nO nO nO) [bN,bN]=sO (Jt J',nO,[bN,bN]):=by
 have b:∀a,Jm (.str Sq) [.str SZ] a=sO (.lst J',a):=λa=>by
  rw[Qi3];exact YH aA c d h1 e
 have:Qb (mMt "str" Jm aE sS) Ql (rS Sq nO nO nO nO) [bN,bN]=sO (kY,[bN,bN]):=by
  simp[rS,b,tyW]
 unfold Kl;show mD
theorem s12{t:Str}:(Q6 1 j9) [bA t,nO,nO,nO,nO,nO,nO,nO] []=sO (.nx [bA t,cE,nO,nO,nO,nO,nO,nO] [bN])/\(Q6 2 j9) [bA t,cE,nO,nO,nO,nO,nO,nO] [bN]=sO (.nx Td [bN,bN]):=by
 constructor
 ·simp
 ·simp[rS]
theorem Qpr(n:Nat):∀(zs:aD),(∀y∈zs,y.length<=n)->(zs.map (·.length)).sum<=n*zs.length:=by
 intro zs
 induction zs with
 |nil=>
  intro _;exact Eg _
 |cons z r a=>
  intro h;have d:=h z aF;have c:=a (iV y b h);rw[NA,OW,N6,Nat.mul_succ];lia
theorem Qed{t:Str}{l:Ln}(g:GL l){x5 x6:cH}:JS (rS t S' Te x5 x6) [bN,bN]=sO (.ex ⟨1,sO l'⟩ [bN,bN]):=by
 have c:=λb=>Qct (e:=gY l) g (hh:=b);show jf5 f d;simp only[evW,evR]at c
 have n:(Q6 5 (mMt "str" Jm dF (Qb jN Ql))) (rS t S' Te x5 x6) [bN,bN]=sO (.nx zm8 [bN,bN]):=by
  simp[rS,c,tyW]
 have m:(KW (QD 1 QS gO)) zm8 [bN,bN]=sO (false,[bN,bN]):=by
  simp[rS,f]
 have j:(Q6 6 (QD 1 QL gO)) zm8 [bN,bN]=sO (.nx zU0 [bN,bN]):=by
  simp[rS,d]
 have a:Yi pV=false:=rfl
 have i:(UW (QB (Qi wIs dY nG)) (VN (KW aV))) zU0 [bN,bN]=sO (true,[bN,bN]):=by
  simp[rS,a]
 unfold JS;rw[Wi (QdT n),Qjm m,Wi (QdT j),Qce];rw[QjG i];rfl
structure BadAt(n:Nat)(x:Str):Prop where
 b:BadR x\/n=0/\∃l,GL l/\x=Yj l
theorem Qhu{es:uK}{x:Str}{rest:aD}(ok:∀e∈es,QiP e)(first:∀e,es[0]?=sO e->∃n,e=dU n)(f:BadAt es.length x)(hsz:(Cl++CT).length<=2000)(g:∀y∈Cl++CT,Ra/\y.length<=2000) :
  ∃hh,JZ [.str (Str.join xE Hx)] []=sO (.inr (⟨1,sO kH⟩,hh)):=by
 have h:es.length<=2000:=by simp at hsz;lia
 have v:=Qpr 2000 _ λy d=>(g y d).2;obtain⟨j,i,c,a,e⟩:=Qil ok h first (t:=Str.join xE Hx) (items:=Jt Hf) (r2:=zn0);have ei:=QfB (rows:=Cl++CT) aF (λy d=>(g y d).1) (by have:=Xz 10 Hx;exact Ng (aU:_<=16777216) aA) (Ng hsz aA)
 have en:Jt Hf=Jt AZ++zn0:=by
  rw[Ed,Qhm];simp
 have r:JS (rS (Str.join xE Hx) (sO (.int es.length)) (sO cM) c a) Mn=sO (.ex ⟨1,sO kH⟩ Mn):=by
  rcases f.b with f|⟨m,l,o,rfl⟩
  ·exact Qi7 (Ng h aA) f
  ·obtain rfl:=NT.mp m;exact Qed o
 refine⟨rH (bld es),?_⟩;generalize Str.join xE Hx=t at *
 have p:Qo6 (Kl (Qb (mMt "str" Jm aE sS) Ql)) u4 JS Td [bN,bN]=sO (.ex ⟨1,sO kH⟩ Mn):=by
  unfold Qo6;rw[ei,Ni];show Yg (Jt Hf) nO _ _ (Jt Hf) _ _=_;generalize u:Jt Hf=I at e en;rw[show Yg I nO u4 JS I=Yg I nO u4 JS (Jt AZ++zn0)from by rw[<-en],e];rw[NA,List.zipIdx_cons,NA,Yg,if_pos (QnB _ _)];rw[show ZS [3,4] (W.tup [.int (es.length:Nat),aJ x]) (rS t j i c a) Mn=sO (rS t (sO (.int (es.length:Nat))) (sO cM) c a)from Mk,Ni,r];rfl
 unfold JZ Qhg;show Qqv (Qcu _ _ [bA t,nO,nO,nO,nO,nO,nO,nO] [])=_;rw[Wi (QdT s12.1),Wi (QdT s12.2),Qce p];rfl
theorem QdW{t:Str}{n:Nat}{hh h:MH}(e:JZ [aJ t] []=sO (.inr (⟨1,sO eL⟩,hh))):Zs [aJ t,aL n] h=sO (dM,h):=by
 refine QC (g:=hh) zD8 ?_ rfl
 have a:QgS (Qb aE Ql) JZ g7 [bA t,aS n,sO .non,nO,nO] []=sO (.nx [bA t,aS n,aS n,nO,sO wI] hh):=by
  unfold QgS;rw[show Qb aE Ql [bA t,aS n,sO .non,nO,nO] []=sO ([aJ t],[])from rfl,Ni];show((JZ [aJ t] []).bind _)=_;rw[e];rfl
 unfold Xk;generalize QgS (Qb aE Ql) JZ g7=b at a;simp[QN,a,JW,Qp4]
def Asc(x:Str):Prop:=∀c∈x.cps.toList,c<128
theorem QqP:∀c:Fin 128,Qrx "abcdefghijklmnopqrstuvwxyz" ⟨#[c.1]⟩=(decide (97<=c.1)&&decide (c.1<=122)):=fW
theorem Qtx{a:aH}{h:MH}(p:∀w∈a,∃x,w=aJ x):wEq oN jD h=sO (.bl a.isEmpty,h):=by
 obtain⟨l,rfl⟩:∃l:aD,a=l.map .str:=by
  induction a with
  |nil=>exact⟨[],rfl⟩
  |cons w r b=>
   obtain⟨l,rfl⟩:=b (iV z c p);obtain⟨x,rfl⟩:=p w aF;exact⟨x::l,rfl⟩
 have d:∀a:aD,dep (fL a)<=40:=λa=>by
  show zI7;exact Nv (Nk this aA)
 rw[QoL Mb (by simp[pln,WU]) (d l) (show dep jD<=40 from d [])];cases l<;>simp[eqW,K5]
theorem Qk5{σ:MSt}{h:MH}:mFn Xf Rm σ h=sO (.tup zG1,h):=rfl
theorem QhR{x:Str}{h:MH}(A:Asc x)(y:zN6):Ja [aJ x] h=sO (.bl (nm7 x),h):=by
 refine QC (g:=[]) aF ?_ rfl;have f:lT:=KY (Nv (Nk y aA));have t:wIn false cM Hs []=sO (.bl (decide BX),[]):=by rw[Gc];simp
 have m:=Qe3 (fin:=Jd) (mi:=QP aE) (cp:=[nO]) (src:=nO) (b:=ZK 0) (mt:=QB (Qi QmP aE Ha)) (me:=Qe 0) (σ:=[bA x,sO Hs]) (h:=[]) (xs:=x.cps.toList) (λc=>.str hG) (λr=>r.length=1) (λc=>! y0) (λc=>.str hG) rfl (λ_ z=>fN z) rfl (λc i r n=>by
  obtain⟨o,rfl⟩:=Fl.mp n;have e:=QqP ⟨c,A c i⟩;simp only at e
  exact⟨[sO (.str hG)],rfl,rfl,by simp[QmP,e],d7⟩) (by simp;exact f)
 have F:∀k,mFn JT (Qb aE Ql) [bA x,k] []=sO (zR x,[]):=λk=>oO f
 have k:=Qk5 (σ:=[bA x,nO]) (h:=[])
 have a:wEq (.lst ((x.cps.toList.filter λc=>! y0).map λc=>W.str hG)) jD []=sO (.bl (x.cps.toList.all λc=>v9),[]):=by
  rw[Qtx λw hw=>by show HJ c;exact cN];congr 3;rw[DF,LK,List.map_eq_nil_iff,Oo,NV];exact⟨λq c i=>by have:=q c i;cases z:y0 with|true=>rfl|false=>rw[z]at this;exact absurd rfl this,λq c i=>by rw[q c i];decide⟩
 show uF m;unfold Xi nm7;generalize(x.cps.toList.filter λc=>! y0).map (λc=>W.str hG)=L at m a;generalize x.cps.toList.all (λc=>v9)=b at a;generalize mFn Xf (Qb mU _)=E at k;generalize Zc Jd (QP aE) [nO] d9 (QB (Qi QmP aE Ha)) aE=co at m
 by_cases l:1<=x.length
 ·by_cases p:zh0
  ·by_cases s:x∈keptN
   ·have d:¬(p9<1):=aU
    have j:¬((8:Int)<x.length):=aU
    simp[QN,k,f,t,l,p,s,d,j]
   ·have d:¬(p9<1):=aU
    have j:¬((8:Int)<x.length):=aU
    simp[QN,k,f,t,m,a,l,p,s,d,j,-NV]
  ·have d:¬(p9<1):=aU
   have j:(8:Int)<x.length:=aU
   simp[QN,k,f,l,p,d,j]
 ·have d:p9<1:=aU
  simp[QN,k,f,l,d]
noncomputable def okW(w f:Str):Bool:=if f=("NAME":Str)then nm7 w else Db w f
noncomputable def Jc:aD->aD->Bool
 |[],[]=>true
 |w::ws,f::fs=>okW w f&&Rb
 |_,_=>false
theorem Yc:∀{ws fs:aD},ws.length≠fs.length->Rb=false
 |[],[],h=>nE h
 |[],_::_,_=>rfl
 |_::_,[],_=>rfl
 |w::ws,f::fs,h=>by
  rw[Jc,Yc (ws:=ws) (fs:=fs) λz=>h (kS z)];simp
def Sm7(x:Str):Prop:=Asc x/\zN6
theorem Qi2{A B:cH}{w f:Str}(hw:Sm7 w):Js [A,B,bA w,bA f] []=if okW w f=true then sO (.nx [A,B,bA w,bA f] [])else sO (.rt wI []):=by
 have e:=QhR (h:=[]) hw.1 hw.2;unfold okW
 by_cases c:f=("NAME":Str)
 ·subst c;cases n:nm7 w<;>rw[n]at e<;>simp[e]
 ·by_cases d:w=f
  ·subst d;simp[c]
  ·simp[c,d]
theorem QcC{A B:cH}{items:aH}:∀(ws fs:aD) (a b:cH),ws.length=fs.length->(∀w∈ws,Sm7 w) ->
  ∃d c,Kf items nO nA Js (Qen iU zE) [A,B,a,b] []=if Rb=true then sO (.nx [A,B,d,c] [])else sO (.rt wI [])
 |[],[],a,b,_,_=>⟨a,b,by simp[Qen,Kf,Jc];exact λ_ z=>fN z⟩
 |w::ws,f::fs,a,b,i,g=>by
  obtain⟨d,c,e⟩:=QcC (A:=A) (B:=B) (items:=items) ws fs (sO (lM w)) (sO (lM f)) (cD i) (iV z h g);show rW d c;have j:=Qi2 (A:=A) (B:=B) (f:=f) (g w aF);show Kf items nO nA Js (.tup [aJ w,aJ f]::Qen iU zE) _ _=_;rw[Kf,vU];rw[show ZS [2,3] (W.tup [aJ w,aJ f]) [A,B,a,b] []=sO [A,B,bA w,bA f]from Mk,Ni,j];rw[Jc];cases o:okW w f
  ·simp
  ·simp only[if_true,Ni,Bool.true_and];exact e
theorem QlH{ws fs:aD}{h:MH}(f:∀w∈ws,Sm7 w)(h1:ws.length<=1000)(i:V3):Zu [.lst iU,.lst zE] h=sO (.bl (Jc ws fs),h):=by
 refine RN;have d:vL:=KY (Nv (Nk h1 aA));have b:fs.length<=sizeLine:=KY (Nv (Nk i aA))
 by_cases c:ws.length=fs.length
 ·obtain⟨m,l,e⟩:=QcC (A:=sO (.lst iU)) (B:=sO (.lst zE)) (items:=Qen iU zE) ws fs nO nO c f;have a:JX (Qak (Qb aE (Qb aK Ql))) nA Js [sO (.lst iU),sO (.lst zE),nO,nO] []=if Rb=true then sO (.nx [sO (.lst iU),sO (.lst zE),m,l] [])else sO (.rt wI []):=e
  unfold Xq;generalize JX (Qak (Qb aE (Qb aK Ql))) nA Js=o at a;cases n:Rb<;>rw[n]at a<;>simp at a<;>simp[QN,d,b,c,a]
 ·have j:¬((ws.length:Int)=fs.length):=aU
  rw[Yc c];simp[Xq,QN,d,b,c,j]
theorem YC{a b:SM}{σ σ1:MSt}{h h1:MH}{f:rG}(e:fJ a=m8 σ1 h1)(c:b σ1 h1=f):QG a b σ h=f:=by
 unfold QG;rw[e];exact c
theorem Qtm{a b:SM}{σ:MSt}{h h1:MH}{v:W}(e:fJ a=zP8):QG a b σ h=zP8:=by
 unfold QG;rw[e];rfl
theorem Qqj{m:SM}{σ:MSt}{h h1:MH}{v:W}(e:fJ m=zP8):Qme pN=cP v h1:=u8 e
theorem QcX{m:ME}{σ:MSt}{h h1:MH}{v:W}{i:Nat}(e:fJ m=cP v h1):Q6 i m σ h=sO (.nx (σ.set i j1) h1):=by
 unfold Q6;rw[e];rfl
theorem Qnk{t:MT}{a b:SM}{σ:MSt}{h h1:MH}{r:rG}(e:fJ t=sO (true,h1))(c:a σ h1=r):zQ6=r:=by
 unfold Ju;rw[e];exact c
theorem G9{t:MT}{a b:SM}{σ:MSt}{h h1:MH}{r:rG}(e:fJ t=sO (false,h1))(c:b σ h1=r):zQ6=r:=by
 unfold Ju;rw[e];exact c
noncomputable def forms:List C6:=[jd7,jr7,jp7,["NAME","=","NAME"],["NAME","=","none"],["tell","NAME"],["back","NAME"],["either"],["or"],["again"],["end"],["do","NAME"]]
noncomputable def QdR(f:aD):W:=c7 f
noncomputable def QdQ(ws:aD):Bool:=forms.any Rl
noncomputable def X2(ws:aD)(n:Nat):Bool:=Jc ws vV ||jz7
theorem Qok:∀(L:List C6),UN zf4<=2:=by
 intro L
 induction L with
 |nil=>
  simp[UN]
 |cons f L a=>
  have b:=a;have d:=VC (xs:=f);simp[UN,QdR,dep];exact Nat.max_le.mpr ⟨aU,b⟩
theorem Qpk:∀(L:List C6),WU zf4=true:=by
 intro L
 induction L with
 |nil=>
  simp[WU]
 |cons f L a=>
  have b:=a;simp[WU,QdR,pln,b]
theorem QsF{L:List C6}{h:MH}:wNe (.lst zf4) jD h=sO (.bl (!L.isEmpty),h):=by
 have d:dep (.lst zf4)<=40:=by have:=Qok L;simp[dep];lia
 rw[Qsx (by unfold pln;exact Qpk L) (by simp[pln,WU]) d Ts];cases L<;>simp[eqW,K5]
theorem QiW{ws:aD}{n:Nat}{h:MH}(j:ws≠[])(l:∀y∈ws,fre 32 y)(u:∀w∈ws,Sm7 w)(h1:zO5)(A:(Str.join fU ws).length<=2000):Z4 [.str (Str.join fU ws),aL n] h=sO (.bl (X2 ws n),h):=by
 refine RN
 have B:Jm (.str (Str.join fU ws)) [.str B9] []=sO (.lst iU,[]):=by
  rw[Qgq];exact YH aA j l (Ng A aA) (Ng h1 aA)
 have r:=λfs (z:V3) h=>QlH (ws:=ws) (fs:=fs) (h:=h) u (Ng h1 aA) z;have s:=r vV aA [];simp only[NA,D4]at s
 have d:=Qe3 (fin:=Jd) (mi:=QP cB) (cp:=PD) (src:=nO) (b:=ZK 0) (mt:=KW (QD 2 Zu (Qb aK (Qb aE Ql)))) (me:=Qe 0) (σ:=[sO (.str (Str.join fU ws)),aS n,sO (.lst iU),jw8]) (h:=[]) (xs:=forms) QdR (λm=>∃o,m=[o,sO (.lst iU)]) Rl QdR rfl (λ_ z=>fN z) ⟨nO,rfl⟩ (λf l m i=>by
  show aO o i
  have x:f.length<=1000:=by
   have:∀f∈forms,f.length<=1000:=a'
   exact this f l
  have e:=r f x []
  exact⟨[sO (QdR f),sO (.lst iU)],rfl,cN,by unfold QdR;simp[e],d7⟩) aA
 have en:=QsF (L:=forms.filter Rl) (h:=[])
 have C:(!(forms.filter Rl).isEmpty)=QdQ ws:=by
  unfold QdQ;rw[DF,Fp,<-YaK,LK,Oo,LO];simp
 rw[C]at en;show uF d;generalize(forms.filter Rl).map QdR=L at d en;unfold X2
 have a:KW (QD 2 Zu (Qb aV (Qb (mFn JB (Qb HI (Qb j7 Ql))) Ql))) [sO (.str (Str.join fU ws)),aS n,sO (.lst iU),nO] []=sO (Jc ws vV,[]):=by
  simp[s,sz2]
 have gt:wGt (.int n) uE []=sO (.bl (decide (0<n)),[]):=aY
 have last:ZU (QcR (Qi wGt aK bC) (Qi wNe (Zc Jd (QP cB) PD d9 (KW (QD 2 Zu (Qb aK (Qb aE Ql)))) aE) qX)) [sO (.str (Str.join fU ws)),aS n,sO (.lst iU),jw8] []=sO (.rt (.bl jz7) []):=by
  generalize Zc Jd (QP cB) PD d9 (KW (QD 2 Zu (Qb aK (Qb aE Ql)))) aE=co at d
  by_cases c:0<n<;>simp[d,en,c]
 unfold XH QN;refine Qqj (YC (QcX (v:=.lst iU) (h1:=[]) (by simp[B,tyW])) ?_);cases p:Jc ws vV with
 |true=>
  rw[p]at a;exact Qtm (Qnk a rfl)
 |false=>
  rw[p]at a;refine YC (G9 a rfl) ?_;refine YC rfl (YC rfl (YC rfl ?_));exact last
theorem Qaf(k:Nat):∀(zs:aD) (y:Str) (c:Nat),y∈zs->c∈y.cps.toList->c∈(Str.join (sg k) zs).cps.toList
 |[],_,_,h,_=>gG h
 |[a],y,c,h,d=>by
  obtain rfl:=j2 h;exact d
 |a::b::r,y,c,h,d=>by
  rw[join_cons2,app_cps,app_cps]
  show qI h
  ·exact Ee _ (Ee _ d)
  ·exact NS _ (Qaf k Au y c h d)
theorem GG(k:Nat):∀(zs:aD),zs.length<=jr5+1/\∀y∈zs,y.length<=jr5
 |[]=>⟨Eg _,λ_ h=>gG h⟩
 |[a]=>⟨Oa _ _,λy h=>by obtain rfl:=j2 h;exact Ny _⟩
 |a::b::r=>by
  obtain⟨h1,d⟩:=GG k Au;have e:(sg k).length=1:=rfl;rw[join_cons2,Wp,Wp,e];simp only[N6]at h1 ⊢;refine⟨aU,bQ y c⟩
  show qI c
  ·lia
  ·have:=d y c;lia
structure Row7(x:Str):Prop where
 a:Asc x
 n:fre 10 x
 l:x.length<=180
noncomputable def wds(x:Str):aD:=Txt.split x fU
structure Wds(x:Str)(ws:aD):Prop where
 ne:ws≠[]
 f:∀y∈ws,fre 32 y
 s:∀y∈ws,Sm7 y
 l:zO5
 j:Str.join fU ws=x
 n:∀y∈ws,Ra
theorem Qg2{x:Str}(r:uW):Wds x rV:=by
 obtain⟨h,g,e⟩:=U8 x 32 aA;have b:=GG 32 rV;unfold wds at b ⊢;rw[e]at b;have i:=r.l;refine⟨h,g,λy d=>⟨λc f=>r.a c (by rw[<-e];exact Qaf 32 _ y c d f),by have:=b.2 y d;lia⟩,aU,e,λy d f=>r.n (by rw[<-e];exact Qaf 32 _ y 10 d f)⟩
theorem QnE{x:Str}{n:Nat}{h:MH}(r:uW):Z4 [aJ x,aL n] h=sO (.bl (X2 rV n),h):=by
 have w:=Qg2 r;have e:=QiW (n:=n) (h:=h) w.ne w.f w.s w.l (by rw[w.j];exact Ng r.l aA);rw[w.j]at e;exact e
noncomputable def Qbx:aD->Nat->Ce
 |[],_=>nO
 |x::r,n=>if X2 rV n=true then Qbx r (n+1)else sO n
noncomputable def Qn2:Ce->W
 |none=>.non
 |gA n=>aL n
theorem QhV{rows:aD}{items:aH}(l:∀x∈rows,uW):∀(k n:Nat) (a:cH),n+k=rows.length ->
  ∃d,Kf items nO (ZK 1) Zn ((List.range' n k).map λi:Nat=>W.int eB) [cE,a] kY=match Qbx (rows.drop n) n with
   |none=>sO (.nx [cE,d] kY)
   |gA m=>sO (.rt (.int m) kY):=by
 intro k
 induction k with
 |zero=>
  intro n a o;show Aq a;rw[Dr aQ];simp[Kf,Qbx];exact λ_ z=>fN z
 | succ k j=>
  intro n a o;have f:n<rows.length:=aU
  obtain⟨d,e⟩:=j (n+1) (bG n) aQ;have p:rows.drop n=rows[n]::rows.drop (n+1):=EV f;have ei:=QnE (n:=n) (h:=kY) (l rows[n] (Dj _));have g:atI (rows.map W.str) eL=sO (.str rows[n]):=by rw[W2];simp[f]
  show Aq d;rw[p,IF,NA,Kf,vU,Qbx];rw[show ZK 1 (W.int eL) [cE,a] kY=sO [cE,aS n]from rfl,Ni];cases c:X2 (wds rows[n]) n with
  | true=>
   rw[c]at ei
   have b:Zn [cE,aS n] kY=sO (.nx [cE,aS n] kY):=by
    simp[g,ei]
   rw[b];simp only[if_true];exact e
  | false=>
   rw[c]at ei
   have b:Zn [cE,aS n] kY=sO (.rt (.int n) kY):=by
    simp[g,ei]
   rw[b];simp
theorem Yw{rows:aD}{h:MH}{n:Nat}(d:∀x∈rows,uW)(l:rows.length<=2000)(f:h[n]?=sO (.lst J')):QX [aG n] h=sO (Qn2 (Qbx rows 0),h):=by
 have b:Qek (.lst J')=true:=by simp[Qek]
 have z:rows.length<=sizeLine:=KY (Nv (Nk l aA));obtain⟨p,e⟩:=QhV (items:=(List.range' 0 rows.length).map λi:Nat=>W.int eB) d rows.length 0 nO aF;rw[OB]at e;have ei:Qb (mFn JT (Qb aE Ql)) Ql [cE,nO] kY=sO ([.int rows.length],kY):=oO z
 have a:JX (KA (Qb (mFn JT (Qb aE Ql)) Ql)) (ZK 1) Zn [cE,nO] kY=match zj6 with
   |none=>sO (.nx [cE,p] kY)
   |gA m=>sO (.rt (.int m) kY):=by
  unfold JX
  have o:Zj 0 rows.length=(List.range' 0 rows.length).map λi:Nat=>W.int eB:=by
   unfold Zj;rw[<-IM];simp
  rw[Kn (j:=rows.length) ei aQ,Ni,o];exact e
 refine Qe7 (g:=[]) f b rfl ?_ (by cases zj6<;>rfl);unfold Vs;generalize JX (KA (Qb (mFn JT (Qb aE Ql)) Ql)) (ZK 1) Zn=r at a;cases c:zj6<;>rw[c]at a<;>simp at a<;>simp[QN,a,Qn2]
theorem Qin{ws:aD}{h:MH}(f:∀w∈ws,Sm7 w)(i:zO5):QS [.lst iU] h=sO (.bl (Jc ws vV),h):=by
 refine RN;have z:vL:=Ng i aA
 by_cases c:ws.length=2
 ·obtain⟨a,b,rfl⟩:∃a b,ws=[a,b]:=by
   match ws,c with
   |[a,b],_=>exact BV
  have e:=Qom (h:=[]) (f b aF).2
  by_cases d:a=("part":Str)
  ·subst d;simp[QZ,QN,e,Jc,okW,sz2]
  ·simp[QZ,QN,d,Jc,okW,sz2]
 ·have j:¬((ws.length:Int)=2):=aU
  rw[Yc (cD c)];simp[QZ,QN,z,j]
noncomputable def lnB(x:Str)(es:aD):Bool:=match Yh Qy x with
 |none=>false
 |gA i=>decide (kH=i)&&es.all nm7
noncomputable def QmI:W->W
 |aJ s=>.bl (nm7 s)
 |_=>iN
theorem Qo3{x:Str}{es:aD}{h:MH}(r:es.length<=200)(o:∀y∈es,y.length<=1000):ZL [Qz CJ] h=sO (.bl (lnB x es),h):=by
 refine QC (g:=[]) aF ?_ rfl;have t:Qz CJ=.tup (aJ x::n5):=rfl;have z:es.length+1<=sizeLine:=Ng (aU:_<=201) aA;have b:¬kH+1=0:=aU
 unfold lnB;rw[t];cases e:Yh Qy x with
 |none=>
  have d:Qhb true Qy cM []=sO (dM,[]):=zF9 e
  simp[VO,QN,d,z,b,JW]
 | some i=>
  have d:Qhb true Qy cM []=sO (iN,[]):=zF9 e
  have l:QkP Qy cM []=sO (aL i,[]):=by unfold QkP;simp[e]
  by_cases c:kH=i
  ·subst c
   have f:mSl aE (ZW aM) Ji [sO (.tup (aJ x::n5))] []=sO (.tup (es.map .str),[]):=by
    have:=Xs (aJ x::es.map W.str) 1;show k7;simp[this]
   have ei:QP (mSl aE (ZW aM) Ji) [sO (.tup (aJ x::n5))] []=sO (n5,nO,[]):=by unfold QP;rw[f];rfl
   have j:=Vo (fin:=Jd) (mi:=QP (mSl aE (ZW aM) Ji)) (cp:=[nO]) (me:=QD 1 Zi (Qb aE Ql)) (σ:=[sO (.tup (aJ x::n5))]) (caps:=[]) (h:=[]) (items:=n5) QmI ei cN (λw hw=>by
    show l0 y n
    simp[Qom (o y n),QmI]) (by simp;exact Ng r aA)
   have em:(es.map W.str).map QmI=es.map λy=>W.bl (nm7 y):=by rw[El];rfl
   show uF j;rw[em]at j;have s:Qap [.lst (es.map λy=>W.bl (nm7 y))] []=sO (.bl (es.all nm7),[]):=Gq;have p:kH+1=1+es.length:=aU
   have a:¬1+kH=0:=aU
   simp[VO,QN,d,l,z,a,p,j,s,JW]
  ·have a:¬kH+1=1+i:=aU
   simp[VO,QN,d,l,z,b,a,JW,c]
noncomputable def QmN(x k:Str)(r:aD):Ln:=if k::r=w9 then A2 else if k∈AO then k::x::r else"same"::x::k::r
theorem QkG{x k:Str}{r:aD}{h:MH}(j:r.length<=200):Zr [aJ x,.tup (aJ k::rD)] h=sO (Qz (QmN x k r),h):=by
 refine QC (g:=[]) aF ?_ aF;have e:=eqT (a:=k::r) (b:=w9) (h:=[]);have f:=zO4 k;have z:2+(eY r)<=sizeLine:=Ng (aU:_<=203) aA;have i:2+r.length<=sizeLine:=Ng (IA _) z;unfold QmN
 by_cases c:k::r=w9
 ·rw[bW c];rw[oF c]at e;simp at e;simp[Zv,QN,e,Qz]
 ·rw[cR c];rw[qQ c]at e;simp only[NA,D4]at e
  by_cases d:k∈AO
  ·rw[bW d];rw[oF d]at f;simp[Zv,QN,e,f,Qro,i,Qz]
  ·rw[cR d];rw[qQ d]at f;simp[Zv,QN,e,f,z,Qz]
theorem Qn9{x:Str}{i:Int}(h:Yh Qy x=sO i):(x,i)∈Qy:=by
 unfold Yh at h;show l8 p a h;have c:=List.find?_some a;have b:=List.mem_of_find?_eq_some a;have:p.1=x:=cL c
 subst this;exact b
theorem QmX{x:Str}{es:aD}(h:lnB x es=true):∃i:Int,(x,i)∈Qy/\kH=i/\∀y∈es,nm7 y=true:=by
 unfold lnB at h;cases a:Yh Qy x with
 |none=>show bT a h
 |some i=>
  rw[a]at h;simp only[NL,decide_eq_true_eq,NV]at h;exact⟨i,Qn9 a,h.1,h.2⟩
theorem KU{ws f:aD}(a:f∈forms)(h:Jc ws f=true):QdQ ws=true:=LO.mpr ⟨f,a,h⟩
theorem QoU{x k:Str}{r:aD}(h:QdQ (x::"="::k::r)=false):∀y es,QmN x k r=y::es->lnB y es=false:=by
 intro y es e;cases q:lnB y es with
 |false=>rfl
 | true=>
  obtain⟨i,m,l,j⟩:=QmX q;refine absurd ?_ (by rw[h];decide:¬QdQ (x::"="::k::r)=true);unfold QmN at e
  by_cases c:k::r=w9
  ·rw[bW c]at e;show oS c e;have:=j x aF;exact KU (f:=["NAME","=","none"]) o6 (by simp[Jc,okW,this])
  ·rw [cR c]at e
   by_cases d:k∈AO
   ·rw[bW d]at e;cases e;have n:=j x aF;simp only[NC,Ey,or_false]at d
    rcases d with rfl|rfl|rfl
    ·have g:i=4:=cL m
     subst g
     obtain⟨a,b,p,rfl⟩:∃a b c,r=[a,b,c]:=by
      have o:r.length=3:=zd6 l
      match r,o with
      |[a,b,c],_=>exact⟨a,b,c,rfl⟩
     exact KU (f:=jd7) o6 (by simp[Jc,okW,n,j a aF,j b aF,j p aF])
    ·have g:i=2:=cL m
     show ja2;exact KU (f:=jr7) o6 (by simp[Jc,okW,n,j a aF])
    ·have g:i=2:=cL m
     show ja2;exact KU (f:=jp7) o6 (by simp[Jc,okW,n,j a aF])
   ·rw[cR d]at e;cases e;have g:i=2:=cL m
    subst g;obtain rfl:r=[]:=NT.mp (by simp at l;lia);exact KU (f:=["NAME","=","NAME"]) o6 (by simp[Jc,okW,j x aF,j k aF])
theorem Qix{x:Str}{es:aD}(h:QdQ CJ=false)(q:lnB x es=true):x∈giv/\es≠[]:=by
 obtain⟨i,c,b,d⟩:=QmX q;have no:¬QdQ CJ=true:=by rw[h];decide
 simp only[Qy,NC,Prod.mk.injEq,Ey,or_false]at c;have ne:∀n:Nat,kH=eL+1->es≠[]:=λn e z=>by subst z;simp at e;lia
 have one:kH=1->∃a,es=[a]/\nm7 a=true:=λe=>by
  obtain⟨a,rfl⟩:=Fl.mp (show es.length=1 by lia);exact⟨a,rfl,d a aF⟩
 have nil:kH=0->es=[]:=λe=>NT.mp aQ
 rcases c with⟨rfl,rfl⟩|⟨rfl,rfl⟩|⟨rfl,rfl⟩|⟨rfl,rfl⟩|⟨rfl,rfl⟩|⟨rfl,rfl⟩|⟨rfl,rfl⟩|⟨rfl,rfl⟩|⟨rfl,rfl⟩|⟨rfl,rfl⟩|⟨rfl,rfl⟩|⟨rfl,rfl⟩
 ·exact⟨by simp[giv],ne 3 b⟩
 ·exact zv7
 ·exact zv7
 ·exact zv7
 ·exact⟨by simp[giv],ne 0 b⟩
 ·show zI8;exact absurd (KU (f:=["tell","NAME"]) o6 zA0) no
 ·show zI8;exact absurd (KU (f:=["back","NAME"]) o6 zA0) no
 ·obtain rfl:=nil b;exact absurd (KU (f:=["either"]) o6 Tu) no
 ·obtain rfl:=nil b;exact absurd (KU (f:=["or"]) o6 Tu) no
 ·obtain rfl:=nil b;exact absurd (KU (f:=["again"]) o6 Tu) no
 ·obtain rfl:=nil b;exact absurd (KU (f:=["end"]) o6 Tu) no
 ·show zI8;exact absurd (KU (f:=["do","NAME"]) o6 zA0) no
theorem Qi8{x k:Str}{r:aD}:∃y es,QmN x k r=y::es/\es.length<=r.length+2/\∀z∈es,z∈x::k::r:=by
 unfold QmN;split
 ·exact⟨_,_,rfl,aY,aY⟩
 ·split
  ·exact⟨_,_,rfl,aY,λz a=>by simp at a ⊢;rcases a with rfl|a<;>simp[*]⟩
  ·exact⟨_,_,rfl,aY,λz a=>by simp at a ⊢;rcases a with rfl|rfl|a<;>simp[*]⟩
theorem Qtv{ws:aD}{h:MH}(m:∀w∈ws,Sm7 w)(n:ws.length<=190)(j:ws≠[])(o:QdQ ws=false):QL [.lst iU] h=zg1:=by
 refine RN
 by_cases c:∃x k r,ws=x::Cs::k::r
 ·obtain⟨x,k,r,rfl⟩:=c;obtain⟨y,d,ge,F,C⟩:=Qi8 (x:=x) (k:=k) (r:=r);have E:r.length<=187:=zd6 n
  have l:=QkG (x:=x) (k:=k) (r:=r) (h:=[]) aQ;have e:=Qo3 (x:=y) (es:=d) (h:=[]) aQ (λz i=>(m z (by have:=C z i;simp at this ⊢;rcases this with rfl|rfl|q<;>simp[*])).2);rw[QoU o y d ge]at e;rw[ge]at l;have z:r.length+1+1+1<=sizeLine:=Ng (aU:_<=190) aA;have s:r.length+1<=sizeLine:=Ng (aU:_<=190) aA;have g2:zt8:=aU
  generalize Qz (y::d)=L at l e;simp[QJ,QN,z,s,g2,Qkx,l,e]
 ·obtain⟨x,d,rfl⟩:∃x d,ws=x::d:=by cases ws with
   |nil=>exact nE j
   |cons a b=>exact BV
  have A:d.length<=189:=zd6 n
  have e:=Qo3 (x:=x) (es:=d) (h:=[]) aQ (λz i=>(m z (kS i)).2);have z:zi4<=sizeLine:=Ng (aU:_<=190) aA
  have t:(KG (QB (Qi wGt (mFn JT (Qb aE Ql)) bY)) (QB (Qi wEq (Qi wIx aE aM) qN))) jj9 []=sO (false,[]):=by
   by_cases g:2<(x::d).length
   ·obtain⟨b,k,r,rfl⟩:∃b k r,d=b::k::r:=by
     cases d with
     |nil=>simp at g
     |cons b r=>cases r with
      |nil=>simp at g
      |cons k r=>exact⟨b,k,r,rfl⟩
    have u:¬b=Cs:=λq=>c ⟨x,k,r,by rw[q]⟩;simp at z;have g2:zt8:=aU
    simp[z,g2,u]
   ·have g2:¬CY<(d.length:Int)+1:=zd6 g
    simp[z,g2]
  have D:mFn J8 (Qb aE Ql) jj9 []=sO (Qz (x::d),[]):=by simp[Qz]
  unfold QJ QN;refine Qqj (YC (G9 t rfl) (YC (QcX D) ?_));cases q:lnB x d with
  |false=>
   rw[q]at e;generalize Qz (x::d)=L at e;simp[e]
  | true=>
   rw[q]at e;obtain⟨B,v⟩:=Qix o q
   obtain⟨a,r,rfl⟩:∃a r,d=a::r:=by cases d with
    |nil=>exact nE v
    |cons a b=>exact BV
   have p:=YG (x:=x) (y:=a) (r:=rD) (h:=[]) aF;rw[bW B]at p;have f:XZ [Qz (x::a::r)] []=sO (aJ a,[]):=p;generalize Qz (x::a::r)=L at e f;simp[e,f,Yi]
theorem Wv{bs:aD}{l:Ln}(b:∀x∈bs,nm7 x=true)(h:LineOk bs bs bs l):GL l:=⟨bs,bs,bs,zv0,zv0,zv0,h⟩
theorem QI{ws fs:aD}{f:Str}(h:Jc ws (f::fs)=true):∃w r,ws=w::r/\okW w f=true/\Jc r fs=true:=by
 cases ws with
 |nil=>cases h
 |cons w r=>
  rw[Jc,NL]at h;exact⟨w,r,rfl,h.1,h.2⟩
theorem JO{ws:aD}(h:Jc ws []=true):ws=[]:=by
 cases ws with
 |nil=>rfl
 |cons w r=>cases h
theorem Yq{w:Str}(h:okW w "NAME"=true):nm7 w=true:=by
 unfold okW at h;rwa[nC]at h
theorem VX{w f:Str}(a:f≠("NAME":Str))(h:okW w f=true):w=f:=by
 unfold okW at h;rw[cR a]at h;exact of_decide_eq_true h
theorem Qjk{ws:aD}(h:QdQ ws=true):∃l,GL l/\ws=wl l:=by
 obtain⟨f,j,e⟩:=LO.mp h;simp only[forms,NC,Ey,or_false]at j
 rcases j with rfl|rfl|rfl|rfl|rfl|rfl|rfl|rfl|rfl|rfl|rfl|rfl
 ·show f4 x c;show f4 a d;show f4 b i;show f4 w g;show f4 y n;show f4 z m;show nB;obtain rfl:=VX aA d;obtain rfl:=VX aA i;refine⟨Bm,Wv (bs:=[x,w,y,z]) ?_ (.plain (.pair aF aF aF aF)),rfl⟩;simp[Yq c,Yq g,Yq n,Yq m]
 ·show f4 x c;show f4 a d;show f4 b i;show f4 y g;show nB;obtain rfl:=VX aA d;obtain rfl:=VX aA i;refine⟨BI,Wv (bs:=[x,y]) ?_ (.plain (.first aF aF)),rfl⟩;simp[Yq c,Yq g]
 ·show f4 x c;show f4 a d;show f4 b i;show f4 y g;show nB;obtain rfl:=VX aA d;obtain rfl:=VX aA i;refine⟨BA,Wv (bs:=[x,y]) ?_ (.plain (.second aF aF)),rfl⟩;simp[Yq c,Yq g]
 ·show f4 x c;show f4 a d;show f4 y g;show nB;obtain rfl:=VX aA d;refine⟨BS,Wv (bs:=[x,y]) ?_ (.plain (.same aF aF)),rfl⟩;simp[Yq c,Yq g]
 ·show f4 x c;show f4 a d;show f4 b i;show nB;obtain rfl:=VX aA d;obtain rfl:=VX aA i;refine⟨A2,Wv (bs:=[x]) ?_ (.plain (.none aF)),rfl⟩;simp[Yq c]
 ·show f4 a c;show f4 x d;show nB;obtain rfl:=VX aA c;refine⟨zj0,Wv (bs:=[x]) ?_ (.plain (.tell aF)),rfl⟩;simp[Yq d]
 ·show f4 a c;show f4 x d;show nB;obtain rfl:=VX aA c;refine⟨zj1,Wv (bs:=[x]) ?_ (.back aF),rfl⟩;simp[Yq d]
 ·show f4 a c;show nB;obtain rfl:=VX aA c;exact⟨["either"],Wv (bs:=[]) aF (.blk fE),rfl⟩
 ·show f4 a c;show nB;obtain rfl:=VX aA c;exact⟨["or"],Wv (bs:=[]) aF (.blk (.inr (.inr fE))),rfl⟩
 ·show f4 a c;show nB;obtain rfl:=VX aA c;exact⟨["again"],Wv (bs:=[]) aF (.blk (.inr fE)),rfl⟩
 ·show f4 a c;show nB;obtain rfl:=VX aA c;exact⟨["end"],Wv (bs:=[]) aF (.blk (.inr (.inr wM))),rfl⟩
 ·show f4 a c;show f4 x d;show nB;obtain rfl:=VX aA c;refine⟨["do",x],Wv (bs:=[x]) ?_ (.do aF),rfl⟩;simp[Yq d]
theorem QlY{ws:aD}(h:Jc ws vV=true):∃n:Str,Nm n/\ws=[("part":Str),n]:=by
 obtain⟨a,_,rfl,c,e⟩:=QI h;show f4 x b;show nB;obtain rfl:=VX aA c;exact⟨x,nm7_iff.mp (Yq b),rfl⟩
theorem Qo0{x:Str}(r:uW){n:Nat}(h:X2 rV n=true):∃e:Ev,QiP e/\evR e=x/\(n=0->∃m,e=dU m):=by
 have w:=Qg2 r;unfold X2 at h;cases a:Jc rV vV with
 |true=>
  obtain⟨m,b,e⟩:=QlY a;exact⟨dU m,b,by rw[<-w.j,e];exact YL m,λ_=>hL m⟩
 |false=>
  rw[a,OV,NL]at h;obtain⟨l,c,e⟩:=Qjk h.2;exact⟨gY l,c,by rw[<-w.j,e];rfl,λz=>by subst z;simp at h⟩
theorem Qmc{x:Str}(r:uW){n:Nat}(h:X2 rV n=false):BadAt n x:=by
 have w:=Qg2 r;have g:=r.l;unfold X2 at h;rw[Bool.or_eq_false_iff]at h;cases a:QdQ rV with
 |true=>
  rw[a]at h;obtain⟨l,d,e⟩:=Qjk a;refine⟨.inr ⟨zD7,l,d,by rw[<-w.j,e];rfl⟩⟩
 |false=>
  have b:=(GG 32 rV).1;rw[w.j]at b;exact⟨.inl ⟨⟨wds x,w.f,w.ne,w.l,w.j.symm,λc=>by rw[Qin w.s w.l,h.1],λc=>Qtv w.s aQ w.ne a⟩,aU,r.n⟩⟩
theorem QlG:∀(rows:aD) (n m:Nat),(∀x∈rows,uW)->Qbx rows n=sO m->∃(es:uK) (x:Str) (rest:aD),rows=Cl++CT/\(∀e∈es,QiP e)/\(n=0->∀e,es[0]?=sO e->∃k,e=dU k)/\n+es.length=m/\BadAt m x:=by
 intro rows
 induction rows with
 |nil=>
  intro _ _ _ h;cases h
 | cons y r j=>
  intro n m b h;rw[Qbx]at h;cases c:X2 (wds y) n with
  | true=>
   rw[c,nC]at h;obtain⟨es,x,rest,u,t,_,v,s⟩:=j (n+1) m (mZ x l b) h;obtain⟨e,i,g,f⟩:=Qo0 (b y aF) c;refine⟨e::es,x,rest,by rw[u,<-g];rfl,?_,aP o w p,zg4,s⟩
   ·intro a d
    show qI d
    ·exact i
    ·exact t a d
   ·cases p;exact f o
  |false=>
   show bT c h;exact⟨[],y,r,rfl,λ_ h=>gG h,λ_ _ h=>gG h,rfl,Qmc (b y aF) c⟩
theorem Qlr{rows:aD}{m:Nat}{h:MH}(a:∀x∈rows,uW)(i:rows.length<=2000)(j:zj6=sO m):Zs [.str Sq,aL m] h=sO (dM,h):=by
 obtain⟨o,x,rest,rfl,g,f,d,c⟩:=QlG rows 0 m a j;obtain rfl:o.length=m:=by rw[<-d,NU]
 obtain⟨p,e⟩:=Qhu g (f rfl) c i λy b=>⟨(a y b).n,Ng (a y b).l aA⟩
 exact QdW e
open Builtin Builtin.Str
def Ch(x:Str):Prop:=∀c∈x.cps.toList,zS2
structure T7(n:Nat)(x:Str):Prop where
 c:Ch x
 l:x.length<=n
theorem T7.row{x:Str}{n:Nat}(t:Ay)(h:n<=180):uW:=⟨λc a=>(t.c c a).1,λa=>(t.c 10 a).2 rfl,Ng t.l h⟩
theorem T7.mono{n m:Nat}{x:Str}(t:Ay)(h:n<=m):T7 m x:=⟨t.c,Ng t.l h⟩
theorem T7.app{n m:Nat}{x y:Str}(t:Ay)(u:T7 m y):T7 (n+m) (x++y):=⟨λc a=>by
 rw[Sp.app_cps]at a
 exact(NQ.mp a).elim (t.c c) (u.c c),by rw[Wp];exact DZ t.l u.l⟩
noncomputable def QoF(n:Nat)(x:Str):Bool:=x.cps.toList.all (λc=>jw9 c)&&decide (x.length<=n)
theorem T7.lit{n:Nat}{x:Str}(h:QoF n x=true):Ay:=by
 unfold QoF at h;rw[NL,NV]at h;exact⟨λc a=>by simpa using h.1 c a,zD7⟩
theorem T7.slice{n:Nat}{x:Str}(t:Ay)(lo hi:dB):T7 n (Me x):=⟨λc a=>by
 unfold Txt.slice at a;split at a
 ·exact t.c c a
 ·obtain⟨i,_,e⟩:=FV.mp a
  exact t.c c (Dm.mpr (Array.mem_of_getElem? e)),Ng (Fv x lo hi) t.l⟩
theorem GN:∀(zs:aD),(∀y∈zs,Ch y)->Ch (Str.join fU zs)
 |[],_=>λ_ h=>by simp[Str.join,Str.empty]at h
 |[a],h=>h a aF
 | a::b::r,h=>λc d=>by
  rw[join_cons2,app_cps,app_cps]at d
  show zB d
  ·show zB d
   ·exact h a aF c d
   ·rw[sgc]at d;rw[j2 d];decide
  ·exact GN Au (mZ y e h) c d
theorem T7.join{k n:Nat}{zs:aD}(h:∀y∈zs,T7 n y)(b:zs.length<=k):T7 ((n+1)*k) (Str.join fU zs):=⟨GN zs λy a=>(h y a).c,by
 have f:=Xz 32 zs;have e:=Qpr n zs λy a=>(h y a).l;have d:n*zs.length<=n*k:=O7 _ b;rw[Nat.add_mul,Nat.one_mul]
 lia⟩
theorem QlR(g:Str)(i:Ch g):∀(ps:aD) (a:PB),(∀c∈a.toList,zS2)->(∀y∈ps,Ch y)->∀c∈(ps.foldl (λa p=>a++g.cps++p.cps) a).toList,zS2:=by
 intro ps
 induction ps with
 |nil=>
  intro _ h _;exact h
 |cons p r e=>
  intro a h d;rw[Fi];refine e _ (mK c b) (iV y f d);rw[O8,O8]at b
  show zB b
  ·exact(NQ.mp b).elim (h c) (i c)
  ·exact d p aF c b
theorem QiE{g:Str}{ps:aD}(e:Ch g)(b:∀y∈ps,Ch y):Ch (glued g ps):=by
 cases ps with
 |nil=>intro c a;simp[glued,Str.empty]at a
 |cons p r=>intro c a;exact QlR g e r p.cps (b p aF) (mZ y d b) c a
theorem QhC{x:Str}(h:Ch x)(a:dD)(w:Nat):∀y∈partsBetween x a w,Ch y:=λy b c d=>by
 unfold partsBetween at b;show M9 q b;refine h c (Dm.mpr ?_);have:=Dm.mp d;obtain⟨i,f,e⟩:=Array.mem_iff_getElem.mp this;rw[<-e];simp only[strSub,Array.getElem_extract];exact YaA _
theorem T7.repl{n k:Nat}{x y z:Str}(t:Ay)(hz:T7 k z):T7 (n+(n+1)*k) (zR4 x):=by
 unfold Txt.replace;split
 ·exact t.mono dZ
 ·refine⟨QiE hz.c (QhC t.c _ _),?_⟩;have b:=StrLaws.occ_length_le x y 0 x.length (eY x);have a:(glued y (partsBetween x (occurrences x y 0 x.length (eY x)) y.length)).length=x.length:=by rw[StrLaws.glued_between_self]
  rw[size_glued,O9,Yam]at a;rw[size_glued,O9,Yam];have d:(occurrences x y 0 x.length (eY x)).length*z.length<=(n+1)*k:=Ij (Ng b (Nat.succ_le_succ t.l)) hz.l;have:=t.l;lia
theorem QqQ:∀c:Fin 128,c.1≠10->((Unicode.upperOf c.1).all λd=>jw9 d)=true:=fW
theorem T7.up{n:Nat}{x:Str}(t:Ay):T7 (3*n) zM8:=⟨λc b=>by
 have b:=Dm.mp b;unfold Txt.upper placed at b;obtain⟨a,f,d⟩:=Array.mem_flatten.mp b;obtain⟨i,g,rfl⟩:=Array.mem_mapIdx.mp f;have e:=t.c x.cps[i] (Dm.mpr (YaA _));have:=NV.mp (QqQ ⟨x.cps[i],e.1⟩ e.2) c (cD d)
 show iA,Ng (PyProof.Rows.len_upper x) (O7 _ t.l)⟩
section
variable{σ:MSt}{h:MH}{n m k j:Nat}{a b e:ME}{ms:MA}{lo hi:MOp}
def TX(n:Nat)(m:ME)(σ:MSt)(h:MH):Prop:=∃y,fJ m=sO (aJ y,h)/\T7 n y
def LX(k:Nat)(m:ME)(σ:MSt)(h:MH):Prop:=∃c:aD,fJ m=sO (c7 c,h)/\(∀y∈c,T7 9 y)/\c.length<=k
def IX(m:ME)(σ:MSt)(h:MH):Prop:=∃i:Int,fJ m=sO (aL i,h)
def OX(m:MOp)(σ:MSt)(h:MH):Prop:=∃i:dB,fJ m=cP i h
def TXS(k:Nat)(ms:MA)(σ:MSt)(h:MH):Prop:=∃c:aD,CV=sO (c.map .str,h)/\(∀y∈c,iZ)/\c.length=k
theorem Xm:OX Ji σ h:=⟨nO,rfl⟩
theorem Xg(c:xL e):OX (ZW e) σ h:=by
 show fV i q c;exact⟨sO i,by unfold ZW;rw[q];rfl⟩
theorem U6{i:Int}:IX (mC d3) σ h:=hL i
theorem QjN(d:xL a)(c:xL b):IX (Qi Zd a b) σ h:=by
 show fV i p d;show fV j q c;exact⟨i+j,jr8⟩
theorem Qpp(d:xL a)(c:xL b):IX (Qi Qig a b) σ h:=by
 show fV i p d;show fV j q c;exact⟨i-j,jr8⟩
theorem Qn1(c:xL a):IX (mUn GM a) σ h:=by
 show fV i p c;exact⟨-i,by unfold mUn;rw[p];rfl⟩
theorem QnN(d:xL a)(c:xL b):IX (mFn Qhw (Qb a (Qb b Ql))) σ h:=by
 show fV i p d;show fV j q c;exact⟨if j>i then j else i,by unfold mFn Qb;rw[p,Ni,q];rfl⟩
theorem X0{x:Str}(c:QoF n x=true):TX n (mC cM) σ h:=⟨x,rfl,T7.lit c⟩
theorem YN(f:O')(d:TX m b σ h)(h1:n<=200)(g:m<=200):TX (n+m) (Qi Zd a b) σ h:=by
 show fH x p c f;obtain⟨y,q,ty⟩:=d;exact⟨x++y,by unfold Qi;rw[p,Ni,q];exact U0 (Ng c.l h1) (Ng ty.l g),c.app ty⟩
theorem Qd2(g:O')(h1:n<=200)(c:OX lo σ h)(d:OX hi σ h):TX n (mSl a lo hi) σ h:=by
 show fH x p f g;show fV i q c;show fV j r d;refine⟨Txt.slice x i j,?_,f.slice i j⟩;unfold mSl;rw[p,Ni,q,Ni,r];show(if lT then _ else _)=_;exact if_pos (Ng (Ng f.l h1) aA)
theorem Qgx{y z:Str}(g:O')(h1:n<=60)(hz:QoF k z=true)(f:k<=2):TX (n+(n+1)*k) (mUn (Qe2 y z) a) σ h:=by
 show fH x p d g;have c:=T7.lit hz;refine⟨Txt.replace x y z,?_,d.repl c⟩;unfold mUn;rw[p,Ni];have i:=d.l;have:(eY x)*z.length<=61*2:=Ij aQ (Ng c.l f);show(if x.length+(eY x)*z.length<=16777216 then _ else _)=_;exact if_pos aQ
theorem Qrn(d:O')(h1:n<=60):TX (3*n) (mMt "str" QaY a Ql) σ h:=by
 show fH x p c d;refine⟨Txt.upper x,?_,c.up⟩;have f:=c.l
 have e:QaY cM [] h=sO (.str zM8,h):=by
  show(if x.length<=5592405 then _ else _)=_;exact if_pos aQ
 unfold mMt;rw[p,Ni];exact e
theorem Qjy(f:TX 9 a σ h):LX 1 (mFn JB (Qb a Ql)) σ h:=by
 show fH x p c f;refine⟨[x],?_,λy d=>by rw[j2 d];exact c,Ny _⟩;unfold mFn Qb;rw[p];exact(if_pos (show Ix by decide):(if[xG].length<=sizeLine then sO (W.lst [aJ x],h)else nO)=_)
theorem Qpe(g:TX 9 a σ h)(f:TX 9 b σ h):LX 2 (mFn JB (Qb a (Qb b Ql))) σ h:=by
 show fH x p d g;obtain⟨y,q,ty⟩:=f;refine⟨[x,y],?_,λz c=>by show qI c;exact d;rw[j2 c];exact ty,Ny _⟩;unfold mFn Qb;rw[p,Ni,q];exact(if_pos (show(2:Nat)<=sizeLine by decide):(if[xG,W.str y].length<=sizeLine then sO (W.lst [aJ x,aJ y],h)else nO)=_)
theorem QaF(l:LX k a σ h)(i:LX j b σ h)(h1:k+j<=200):LX (k+j) (Qi Zd a b) σ h:=by
 show hZ x p c f l;obtain⟨y,q,ty,d⟩:=i;refine⟨x++y,?_,λz g=>(NQ.mp g).elim (c z) (ty z),by simp;exact DZ f d⟩;unfold Qi;rw[p,Ni,q,Ni];have:zZ3:=Ng (zg4:_<=200) aA;rw[Ed];show(if zZ3 then _ else _)=_;exact if_pos this
theorem Gw{c d:Type}(f:c->d)(xs:gN c)(lo hi:dB):Y3 zh7 lo hi=(Y3 xs lo hi).map f:=by
 unfold Y3;rw[Nz,List.map_take,FN]
theorem QdU(o:LX k a σ h)(c:OX lo σ h)(d:OX hi σ h):LX k (mSl a lo hi) σ h:=by
 show hZ x p f g o;show fV i q c;show fV j r d;refine⟨Y3 x i j,?_,λz l=>f z (FH (ON l)),Ng (Qb9 _ _ _) g⟩;unfold mSl;rw[p,Ni,q,Ni,r,<-Gw];rfl
theorem GI(g:LX k a σ h)(h1:k<=18):TX ((9+1)*k) (mMt "str" Xp jN (Qb a Ql)) σ h:=by
 show hZ x p c d g;refine⟨Str.join fU x,?_,T7.join c d⟩;have i:=Qpr 9 x λy f=>(c y f).l;have e:Xp (.str B9) [c7 x] h=sO (.str (Str.join fU x),h):=by rw[Qgq];exact jL aQ
 unfold mMt Qb;show(((a σ h).bind _).bind _)=_;rw[p];exact e
theorem Ud:TXS 0 Ql σ h:=⟨[],rfl,aY,rfl⟩
theorem Ze(l:O')(i:zd2)(h1:n<=180):TXS (k+1) (Qb a ms) σ h:=by
 show fH x p f l;obtain⟨d,q,ty,g⟩:=i;refine⟨x::d,?_,bQ z c,oO g⟩
 ·unfold Qb;rw[p,Ni,q];rfl
 ·show qI c
  ·exact f.mono h1
  ·exact ty z c
#print "-"
def GT(r:rG):Prop:=∃y a,r=sO (.rt lE a)/\iZ
section
variable{σ:MSt}{h:MH}{k j i:Nat}{m:ME}{ms:MA}{body:SM}{v:W}
theorem Qna{n:Nat}{ws:aH}(g:GT (body (jx8 n) [])):∃y,iZ/\∃g',QN n body ws []=sO (aJ y,g'):=by
 show hZ y a e t g;exact⟨y,t,a,by unfold QN;rw[e];rfl⟩
theorem QaV(e:fJ m=cP v h)(next:GT (body (σ.set i j1) h)):GT (QG (Q6 i m) body σ h):=by
 unfold QG Q6;rw[e];exact next
theorem QoH(a:zd2)(b:k<=100)(next:∀ys:aD,(∀y∈ys,iZ)->ys.length=k->GT (body (σ.set i (lV h)) (h++[Tk]))):GT (QG (Q6 i (mFn WE ms)) body σ h):=by
 obtain⟨ys,e,t,l⟩:=a;have z:(ys.map W.str).length<=sizeLine:=by rw[Nz,l];exact Ng b aA
 have c:mFn WE ms σ h=sO (oG,h++[Tk]):=by
  unfold mFn;rw[e];exact bW z
 unfold QG Q6;rw[c];exact next ys t l
theorem QjH{ys:aD}(e:CV=sO (ys.map .str,h))(z:ys.length<=100):mFn JB ms σ h=sO (Tk,h):=by
 unfold mFn;rw[e];exact if_pos (by rw[Nz];exact Ng z aA)
theorem Qfk{a:W}{zs:aD}(n:fJ m=cP a h)(hw:∀ys:aH,Zd a u9 h=(loW h a).bind λxs=>if S2 then sO (.lst (xs++ys),h)else nO)(f:loW h a=sO qU)(hz:∀y∈zs,iZ)(b:zs.length=j)(d:zd2)(g:j+k<=100)
  (next:∀ys:aD,(∀y∈ys,iZ)->ys.length=j+k->GT (body (σ.set i (sO (.lst (ys.map .str)))) h)):GT (QG (Q6 i (Qi Zd m ML)) body σ h):=by
 obtain⟨ys,e,t,l⟩:=d;have p:=QjH e aQ
 have o:Qi Zd m ML σ h=sO (jz8,h):=by
  unfold Qi;rw[n,Ni,p,Ni,hw,f,Ni,Ed];exact if_pos (by rw[Nz,Nz,b,l];exact Ng g aA)
 show zY8 o c b
theorem Qmv{zs:aD}(f:fJ m=sO (.lst qU,h))(hz:∀y∈zs,iZ)(a:zs.length=j)(c:zd2)(d:j+k<=100)
  (next:∀ys:aD,(∀y∈ys,iZ)->ys.length=j+k->GT (body (σ.set i (lV h)) (h++[Tk]))):GT (QG (Q6 i (Qi Qei m ML)) body σ h):=by
 obtain⟨ys,e,t,l⟩:=c;have n:=QjH e aQ
 have g:Qi Qei m ML σ h=sO (oG,h++[jz8]):=by
  unfold Qi;rw[f,Ni,n,Ni,Ed];show(if(zs.map W.str).length+(ys.map W.str).length<=sizeLine then _ else _)=_;exact if_pos (by rw[Nz,Nz,a,l];exact Ng d aA)
 show zY8 g b a
#print "-"
theorem Qsw{a b:aD}{h:MH}:wEq (fL a) (fL b) h=jw5:=by
 have d:∀a:aD,dep (fL a)<=40:=λa=>by
  show zI7;exact Nv (Nk this aA)
 rw[QoL Mb Mb (d a) (d b)]
 have:∀a b:aD,K5 (gW a) (gW b)=Db a b:=λa=>by
  induction a with
  |nil=>intro b;cases b<;>simp[K5]
  | cons x r c=>
   intro b;cases b with
   |nil=>simp[K5]
   |cons y s=>
    rw[NA,NA,K5,c,DF];simp[eqW]
 rw[show eqW (fL a) (fL b)=K5 (gW a) (gW b) by simp[eqW],this]
theorem QkF{i:Int}(h0:0<=i)(h1:i<6){h:MH}:∃y,wIx jk0 d3 h=sO (aJ y,h)/\T7 1 y:=by
 obtain⟨n,rfl⟩:=Fd h0;have a:n<6:=aU
 have e:∀(k c:Nat),atI ji3 cT=sO c->wIx jk0 (.int cT) h=sO (W.str hG,h):=λk c q=>by
  show(if(Str.ofString "a =9Az").length<=sizeLine then(atI ji3 cT).map λc=>(W.str hG,h)else nO)=_;rw[if_pos aA,q];rfl
 have:n=0\/n=1\/n=2\/n=3\/n=4\/n=5:=aU
 rcases this with rfl|rfl|rfl|rfl|rfl|rfl
 ·exact⟨_,e 0 97 aA,T7.lit aA⟩
 ·exact⟨_,e 1 32 aA,T7.lit aA⟩
 ·exact⟨_,e 2 61 aA,T7.lit aA⟩
 ·exact⟨_,e 3 57 aA,T7.lit aA⟩
 ·exact⟨_,e 4 65 aA,T7.lit aA⟩
 ·exact⟨_,e 5 122 aA,T7.lit aA⟩
theorem Ql7{y:Str}(h:Wo y):T7 8 y:=⟨λc a=>by have:=h.1 c a;lia,h.2⟩
theorem QeZ{zs:aD}(hz:∀y∈zs,Wo y)(hn:zs≠[])(P:zs.length<=6){N:Int}(hN:0<=N):∃y,iZ/\∀h,Jp [.str (Str.join fU zs),aL N] h=sO (aJ y,h):=by
 have es:=Uv (h:=[]) hz hn P;have lx:=QaL hz P;have tx:T7 54 (Str.join fU zs):=⟨GN zs λy D=>(Ql7 (hz y D)).c,lx⟩
 have hp:0<zs.length:=Df.mpr hn;generalize Str.join fU zs=x at *;have F:∀y∈zs,T7 9 y:=λy D=>(Ql7 (hz y D)).mono aA;obtain⟨o,aa,U⟩:=QkF (i:=N/65536%6) (NW _ aA) (NM _ aA) (h:=[]);obtain⟨m,Z,M⟩:=Qbr (xs:=zW6) (i:=N/65536%10) (NW _ aA) (NM _ aA)
 have X:T7 9 m:=by
  have:∀y∈(zW6:aD),QoF 9 y=true:=a'
  exact T7.lit (this m Z)
 have L:zs.length<=sizeLine:=Ng P aA;have z2:lT:=Ng lx aA;have p1:gK<zs.length:=aU
 have p2:gK<p9+1:=aU
 have w1:JL (.int (N/32)) (.int zs.length) []=sO (.int (N/32%zs.length),[]):=bW p1;have w2:JL (.int (N/512)) (.int (eY x)) []=sO (.int (N/512%(eY x)),[]):=bW p2
 suffices G:∃y,iZ/\∃g',Vm [aJ x,aL N] []=sO (aJ y,g') by
  show hZ y t g' e G;exact⟨y,t,λh=>QC (g:=g') zD8 e rfl⟩
 unfold Vm;refine Qna ?_;refine QaV (v:=.lst qU) (by simp[es,tyW]) ?_;refine QaV (v:=.int (N/32%zs.length)) (by simp[L,w1]) ?_;refine QaV (v:=.int (N/512%(eY x))) (by simp[z2,w2]) ?_;refine QaV (v:=aJ o) (by simp[aa]) ?_;refine QaV (v:=aJ m) (by simp at M;simp[M]) ?_;generalize N/32%(zs.length:Int)=f
 generalize N/512%(p9+1)=p;have u:∀z h,TX 54 aE [bA x,aS N,lP,aS f,aS p,bA o,bA m,z] h:=λ_ _=>⟨x,rfl,tx⟩
 have J:∀z h,LX 6 aV [bA x,aS N,lP,aS f,aS p,bA o,bA m,z] h:=λ_ _=>⟨zs,rfl,F,P⟩
 have Q:∀z h,IX cB [bA x,aS N,lP,aS f,aS p,bA o,bA m,z] h:=λ_ _=>hL f
 have I:∀z h,IX dF [bA x,aS N,lP,aS f,aS p,bA o,bA m,z] h:=λ_ _=>hL p
 have V5:∀z h,TX 1 hY [bA x,aS N,lP,aS f,aS p,bA o,bA m,z] h:=λ_ _=>⟨o,rfl,U⟩
 have V6:∀z h,TX 9 dY [bA x,aS N,lP,aS f,aS p,bA o,bA m,z] h:=λ_ _=>⟨m,rfl,X⟩
 show GT (QG _ _ [bA x,aS N,lP,aS f,aS p,bA o,bA m,nO] []);refine QoH (k:=7) (Ze (YN m9 (X0 (n:=1) aA) aA aA) (Ze (YN (X0 (n:=1) aA) m9 aA aA) (Ze (Qgx (k:=2) m9 aA aA aA) (Ze (Qrn m9 aA) (Ze (YN m9 (X0 (n:=2) aA) aA aA) (Ze (GI (QdU CK Xm (Xg (Qn1 U6))) aA) (Ze (X0 (n:=0) aA) Ud aA) aA) aA) aA) aA) aA) aA) aA (aP s t1 l1);show GT (QG _ _ [bA x,aS N,lP,aS f,aS p,bA o,bA m,cE] [c7 s]);refine Qfk (k:=2) (a:=uT) (zs:=s) rfl P5 rfl t1 l1 (Ze (GI (QaF (QaF (QdU CK Xm (Ak Q)) (Qjy (V6 _ _)) aA) (QdU CK (Xg (QjN (Q _ _) U6)) Xm) aA) aA) (Ze (GI (QaF (QaF (QdU CK Xm (Ak Q)) (Qjy (V6 _ _)) aA) (QdU CK (Ak Q) Xm) aA) aA) Ud aA) aA) aA (aP T t2 l2);show GT (QG _ _ [bA x,aS N,lP,aS f,aS p,bA o,bA m,sO (fL T)] [c7 s]);refine Qfk (k:=3) (a:=c7 T) (zs:=T) rfl P5 rfl t2 l2 (Ze (YN (Qd2 m9 aA Xm (Ak I)) (Qd2 m9 aA (Xg (QjN (I _ _) U6)) Xm) aA aA) (Ze (YN (YN (Qd2 m9 aA Xm (Ak I)) (V5 _ _) aA aA) (Qd2 m9 aA (Ak I) Xm) aA aA) (Ze (YN (Qd2 m9 aA Xm (Ak I)) (Qd2 m9 aA (Xg (QnN U6 (Qpp (I _ _) U6))) Xm) aA aA) Ud aA) aA) aA) aA (aP S t3 l3);show GT (QG _ _ [bA x,aS N,lP,aS f,aS p,bA o,bA m,sO (fL S)] [c7 s]);refine Qfk (k:=6) (a:=c7 S) (zs:=S) rfl P5 rfl t3 l3 (Ze (YN (X0 (n:=4) aA) m9 aA aA) (Ze (Qgx (k:=1) m9 aA aA aA) (Ze (X0 (n:=20) aA) (Ze (X0 (n:=20) aA) (Ze (X0 (n:=20) aA) (Ze (X0 (n:=20) aA) Ud aA) aA) aA) aA) aA) aA) aA (aP y4 t4 l4);show GT (QG _ _ [bA x,aS N,lP,aS f,aS p,bA o,bA m,sO (fL y4)] [c7 s]);refine Qmv (k:=5) (zs:=y4) rfl t4 l4 (Ze (X0 (n:=20) aA) (Ze (X0 (n:=20) aA) (Ze (X0 (n:=20) aA) (Ze (X0 (n:=20) aA) (Ze (YN m9 (X0 (n:=2) aA) aA aA) Ud aA) aA) aA) aA) aA) aA (aP w t5 Y);show GT (QG _ _ [bA x,aS N,lP,aS f,aS p,bA o,bA m,sO gI] [c7 s,c7 w])
 have last:∀H:aD,(∀y∈H,iZ)->H.length=23->GT (ZU (Qi wIx dS (Qi JL aK (mFn JT (Qb dS Ql)))) [bA x,aS N,lP,aS f,aS p,bA o,bA m,sO gI] [c7 s,c7 H]):=λH t l=>by
  obtain⟨y,D,e⟩:=Qbr (xs:=H) (i:=N%23) (NW _ aA) (by rw[l];exact NM _ aA);have R:(23:Nat)<=sizeLine:=a'
  refine⟨y,[c7 s,c7 H],?_,t y D⟩;simp[l,R,e]
 by_cases c:(Y3 zs sD (sO 2)=[Cs]/\2<zs.length)
 ·show fV O c2 c
  obtain⟨a,b,d,r,rfl⟩:∃a b d r,zs=a::b::d::r:=by
   match zs,c2 with
   |a::b::d::r,_=>exact⟨a,b,d,r,rfl⟩
  obtain⟨q,eq,tq⟩:=GI (k:=8) (QaF (Qpe (a:=Qi wIx aV bY) (b:=Qi wIx aV bC) (σ:=[bA x,aS N,Hd,aS f,aS p,bA o,bA m,sO gI]) (h:=[c7 s,c7 w]) ⟨d,aY,F d aF⟩ ⟨a,aY,F a aF⟩) (QdU (lo:=ZW dL) (hi:=Ji) CK (Xg U6) Xm) aA) aA;have C:=Qsw (a:=Y3 (a::b::d::r) sD (sO 2)) (b:=[Cs]) (h:=[c7 s,c7 w]);rw[oF O,<-Gw]at C
  have et:∀(A B:SM) E h1,A [bA x,aS N,Hd,aS f,aS p,bA o,bA m,sO gI] [c7 s,c7 w]=m8 E h1->Ju (KG (QB (Qi wEq (mSl aV (ZW aM) (ZW bY)) (mFn JB (Qb qN Ql)))) (QB (Qi wGt (mFn JT (Qb aV Ql)) bY))) A B [bA x,aS N,Hd,aS f,aS p,bA o,bA m,sO gI] [c7 s,c7 w]=m8 E h1:=λA B E h1 eA=>by
   refine Qnk ?_ eA;have g2:zt8:=aU
   simp only[NA,D4]at C L;simp at L;simp[C,L,g2,show Ix from a']
  have ep:Qc3 dS (mUn GM aM) (mMt "str" Xp jN (Qb (Qi Zd (mFn JB (Qb (Qi wIx aV bY) (Qb (Qi wIx aV bC) Ql))) (mSl aV (ZW dL) Ji)) Ql)) [bA x,aS N,Hd,aS f,aS p,bA o,bA m,sO gI] [c7 s,c7 w]=sO (.nx [bA x,aS N,Hd,aS f,aS p,bA o,bA m,sO gI] [c7 s,.lst ((w.set 22 q).map .str)]):=by
   unfold Qc3;rw[eq,Ni];show((ixN (zS3 w) (-1)).map λj=>MF.nx _ ([vJ,MO.lst (CB w)].set 1 (.lst ((w.map W.str).set j (lM q)))))=_;rw[Nz,Y,show ixN 23 (-1)=sO 22 from a',Yan];rfl
  have:=last (w.set 22 q) (λy D=>by
   show zG3 D t5 y
   ·exact tq.mono aA) (by rw[Dh,Y])
  obtain⟨y,h',e,t⟩:=this;exact⟨y,h',YC (et _ _ _ _ ep) e,t⟩
 ·have C:=Qsw (a:=Y3 zs sD (sO 2)) (b:=[Cs]) (h:=[c7 s,c7 w]);rw[<-Gw]at C;simp only[NA,D4]at C;obtain⟨y,h',e,t⟩:=last w t5 Y;refine⟨y,h',YC (G9 ?_ rfl) e,t⟩
  by_cases O:Y3 zs sD (sO 2)=[Cs]
  ·have c2:¬CY<zs.length:=λq=>c ⟨O,aU⟩;rw[oF O]at C;simp[C,L,c2,show Ix from a']
  ·rw[qQ O]at C;simp[C,show Ix from a']
theorem QcU:∀(rows:aD) (n j:Nat) (x:Str),rows[j]?=sO x->X2 rV (n+j)=false->∃m,Qbx rows n=sO m
 |[],_,_,_,h,_=>gG h
 |y::r,n,0,x,h,a=>by
  cases h;exact⟨n,by rw[Qbx,show X2 (wds y) n=false from a];rfl⟩
 |y::r,n,j+1,x,h,a=>by
  rw[Qbx];split
  ·exact QcU r (n+1) j x (cD h) (by rw[show n+1+j=n+(j+1) by lia];exact a)
  ·exact⟨n,rfl⟩
theorem Qhh(n:Nat):X2 (wds mP) n=false:=by
 have e:wds mP=Hy:=by
  have:=Gg (c:=32) (ps:=Hy) aA aA (by
   show vB y a;unfold fre
   rcases a with rfl|rfl|rfl<;>decide)
  unfold wds;rw[show mP=Str.join fU Hy from Kh aA];exact this
 rw[e];have d:Jc Hy vV=false:=a'
 have b:QdQ Hy=false:=a'
 unfold X2;rw[d,b];simp
def Rw7(y:Str):Prop:=∃a:aD,(∀z∈a,Wo z)/\a≠[]/\a.length<=6/\y=Str.join fU a
theorem QnF{e:Ev}(h:QiP e):Rw7 Rj:=by
 cases e with
 |inl n=>exact⟨_,Gu h,aY,aY,YL n⟩
 |inr l=>
  show zy8;exact⟨_,a,b,c,rfl⟩
theorem Qoa{y:Str}(h:Rw7 y):iZ:=by
 obtain⟨d,a,b,c,rfl⟩:=h;exact T7.mono ⟨GN d λy e=>(Ql7 (a y e)).c,QaL a c⟩ aA
noncomputable def lS(ns:eX)(q:W)(r:aD)(a v4 v5 v6 v7:cH):MSt:=[hF,sO q,sO (fL r),a,v4,v5,v6,v7]
theorem mxc(ns:eX){i:Int}{k:Nat}(a:k<=1000)(hi:i=(k:Nat))(h:MH):Qw [scr ns,aL i] h=sO (zO3,h):=by rw[hi];exact QiD ns a h
section
variable{ns:eX}{q:W}{r:aD}{k:Nat}{v4 v6 v7:cH}{h0:MH}
theorem Qp8(E:∀y∈r,Rw7 y)(F:r≠[])(G:zO6)(Q:k<=5){t:Nat}(O:t<=1){s:aD}(D:∀y∈s,iZ)(ls:zE3) :
  ∃(b:aD) (B:cH),(∀y∈b,iZ)/\b.length=r.length/\YM (lS ns q r (bG k) v4 (lV h0) (bG t) v7) (h0++[c7 s])=sO (.nx (lS ns q r (bG k) v4 (lV h0) (bG t) B) (h0++[c7 b])):=by
 have z:r.length<=sizeLine:=Ng G aA;have P:0<r.length:=Df.mpr F;have l:gK<r.length:=aU
 have n:=λh=>mxc ns (i:=320+2*cT+t) (k:=320+2*k+t) aQ aF h;have m:=λh=>mxc ns (i:=340+2*cT+t) (k:=340+2*k+t) aQ aF h;have g2:=Qbm ns (340+2*k+t);generalize mx ns (320+2*k+t)=e at n;generalize mx ns (340+2*k+t)=S at m g2;obtain⟨a,I⟩:=Fd (NW e (jB6 r));have d:a<r.length:=by have:=NM e l;lia
 obtain⟨N,x,w,p,J⟩:=E r[a] (Dj _);obtain⟨y,ty,o⟩:=QeZ x w p g2;rw[<-J]at o;have L:atI (CB r) Am=sO (.str r[a]):=by rw[W2];simp[d]
 have g:JV (.int 2) (.int k)=λh=>sO (.int (2*cT),h):=by
  funext h;exact(if_pos (.inl ⟨a',a'⟩):(if(-(2^64)<CY/\CY<2^64)\/(-(2^64)<cT/\cT<2^64)then sO (W.int (2*cT),h)else nO)=_)
 have H:(h0++[vJ])[h0.length]?=sO (fL s):=aY
 have C:ixN s.length Am=sO a:=by
  unfold ixN;rw[if_pos aQ,if_pos aQ];rfl
 have A:∀h,JL (.int e) (.int r.length) h=sO (aL a,h):=λh=>by rw[<-I];exact bW l
 refine⟨s.set a y,aS a,bQ u c,by rw[Dh,ls],?_⟩
 ·show zG3 c D u
  ·exact ty
 ·unfold YM lS;refine YC (QcX (v:=aL a) (h1:=h0++[c7 s]) ?_) ?_
  ·simp[g,n,z,A]
  ·unfold Qc3
   have M:QD 2 Jp (Qb (Qi wIx aV dS) (Qb (QD 2 Qw (Qb aE (Qb (Qi Zd (Qi Zd (mC (.int 340)) (Qi JV bY cB)) dY) Ql))) Ql)) ([hF,sO q,sO (fL r),aS k,v4,sO (.ref h0.length),aS t,v7].set 7 (bG a)) (h0++[c7 s])=sO (aJ y,h0++[c7 s]):=by
    simp[g,m,L,o]
   rw[M,Ni];show(match (h0++[vJ])[h0.length]? with|zT f=>(ixN f.length Am).map λj=>MF.nx _ ((h0++[vJ]).set h0.length (.lst (f.set j lE)))|_=>nO)=_;rw[H];show((ixN (zS3 s) Am).map λj=>MF.nx _ ((h0++[vJ]).set h0.length (.lst ((s.map W.str).set j lE))))=_;rw[Nz,C,Yan];simp
#print "-"
section
variable{ns:eX}{q:W}{r:aD}{k:Nat}{h0:MH}
theorem QnK(l:∀y∈r,Rw7 y)(u:r≠[])(z:zO6)(A:k<=5){c:Int}{v6 v7:cH} :
  ∃(s:aD) (d a:cH),(∀y∈s,iZ)/\zE3/\JX (KA (Qb (Qi Zd aM (Qi JL dF bY)) Ql)) (ZK 6) YM (lS ns q r (bG k) (bG c) (lV h0) v6 v7) (h0++[c7 r])=sO (.nx (lS ns q r (bG k) (bG c) (lV h0) d a) (h0++[c7 s])):=by
 obtain⟨m,x⟩:=Fd (show 0<=1+c%2 by lia);have v:m<=2:=aU
 have ei:Qb (Qi Zd aM (Qi JL dF bY)) Ql (lS ns q r (bG k) (bG c) (lV h0) v6 v7) (h0++[c7 r])=sO ([.int uL],h0++[c7 r]):=by
  unfold lS;simp;exact x
 obtain⟨n,E,e,s,d,a,g,f,rfl,rfl⟩:=JD (items:=Zj 0 m) (b:=ZK 6) (body:=YM) (λj i h=>∃(s:aD) (d a:cH),(∀y∈s,iZ)/\zE3/\i=lS ns q r (bG k) (bG c) (lV h0) d a/\h=h0++[c7 s]) (Zj 0 m) 0 (lS ns q r (bG k) (bG c) (lV h0) v6 v7) (h0++[c7 r]) ⟨r,v6,v7,λy p=>Qoa (l y p),rfl,rfl,rfl⟩ (by
  rintro j w C i h ⟨s,d,a,g,f,rfl,rfl⟩
  obtain⟨B,rfl⟩:=Yd C;obtain⟨o,D,g1,g2,g3⟩:=Qp8 (ns:=ns) (q:=q) (k:=k) (v4:=aS c) (v7:=a) (h0:=h0) l u z A (t:=j) aQ g f
  exact⟨lS ns q r (bG k) (bG c) (lV h0) (bG j) a,rfl,_,_,dU g3,o,_,_,g1,g2,rfl,rfl⟩)
 refine⟨s,d,a,g,f,?_⟩;unfold JX;rw[Kn ei aQ,Ni];exact e
theorem Qmz{s:aD}{n:Nat}{hh:MH}(e:∀y∈s,iZ)(h1:s≠[])(f:s.length<=2000)(d:hh[n]?=sO (fL s)){c:Int}(N:0<=c){v6 v7:cH} :
  ∃v,QG (Ju (QB (Qi wIs (QD 1 QX gO) nG)) (Qc3 hY (Qi JL (Qi V8 dF vX) (mFn JT gO)) jB3) Q7)
  (Ju (VN (KW (QD 2 Zs (Qb (mMt "str" Xp Id gO) (Qb (QD 1 QX gO) Ql))))) hA Q7) (lS ns q r (bG k) (bG c) (sO (aC n)) v6 v7) hh=sO (.nx (lS ns q r (bG k) (bG c) (sO (aC n)) v6 v7) v):=by
 have fin:∀(s:aD) (hh:MH) (m:Nat),(∀y∈s,iZ)->s.length<=2000->hh[n]?=sO (fL s)->Qbx s 0=sO m->Ju (VN (KW (QD 2 Zs (Qb (mMt "str" Xp Id gO) (Qb (QD 1 QX gO) Ql))))) hA Q7 (lS ns q r (bG k) (bG c) (sO (aC n)) v6 v7) hh=sO (.nx (lS ns q r (bG k) (bG c) (sO (aC n)) v6 v7) hh):=λs hh m e f d i=>by
  have g:=Yw (h:=hh) (n:=n) (λy b=>(e y b).row aA) f d;rw[i]at g;have L:=Qlr (h:=hh) (λy b=>(e y b).row aA) f i;have C:=Qpr 180 s λy b=>(e y b).l;have J:Xp (.str SZ) [aG n] hh=sO (.str (Str.join xE s),hh):=by rw[Qi3];exact jR d aQ
  refine G9 (h1:=hh) ?_ rfl;unfold lS;simp[g,L,J,Qn2,tyW]
 cases i:Qbx s 0 with
 |some m=>
  have g:=Yw (h:=hh) (n:=n) (λy b=>(e y b).row aA) f d;rw[i]at g;refine⟨hh,YC (G9 (h1:=hh) ?_ rfl) (fin s hh m e f d i)⟩;unfold lS;simp[g,Qn2,Yi]
 | none=>
  have g:=Yw (h:=hh) (n:=n) (λy b=>(e y b).row aA) f d;rw[i]at g;have M:0<s.length:=Df.mpr h1;have B:gK<s.length:=aU
  obtain⟨a,H⟩:=Fd (NW (c/12) (jB6 s));have x:a<s.length:=by have:=NM (c/12) B;lia
  have F:ixN s.length Am=sO a:=by
   unfold ixN;rw[if_pos aQ,if_pos aQ];rfl
  have p:∀y∈s.set a mP,iZ:=λu o=>by
   show zG3 o e u
   ·exact T7.lit aA
  have t:n<hh.length:=cG d;have w:(hh.set n (.lst ((s.set a mP).map .str)))[n]?=sO (.lst ((s.set a mP).map .str)):=EA t;obtain⟨m,G⟩:=QcU (s.set a mP) 0 a mP (EA x) (Qhh _);have z:s.length<=sizeLine:=Ng f aA;have E:JL (.int (c/12)) (.int s.length) hh=sO (aL a,hh):=by rw[<-H];exact bW B
  refine⟨hh.set n (.lst ((s.set a mP).map .str)),YC (σ1:=lS ns q r (bG k) (bG c) (sO (aC n)) v6 v7) (Qnk (h1:=hh) ?_ ?_) (fin _ _ m p (zP4 f) w G)⟩
  ·unfold lS;simp[g,Qn2,Yi]
  ·unfold Qc3
   have I:Qi JL (Qi V8 dF vX) (mFn JT gO) (lS ns q r (bG k) (bG c) (sO (aC n)) v6 v7) hh=sO (aL a,hh):=by
    unfold lS;simp[d,z,E]
   rw[show mC (.str mP) (lS ns q r (bG k) (bG c) (sO (aC n)) v6 v7) hh=sO (.str mP,hh)from rfl,Ni];rw[show Qe 5 (lS ns q r (bG k) (bG c) (sO (aC n)) v6 v7) hh=sO (aG n,hh)from rfl,Ni,I,Ni];show(match hh[n]? with|zT A=>(ixN A.length Am).map λj=>MF.nx _ (hh.set n (.lst (A.set j (.str mP))))|_=>nO)=_;rw[d];show((ixN (zS3 s) Am).map λj=>MF.nx _ (hh.set n (.lst ((s.map W.str).set j (.str mP)))))=_;rw[Nz,F,Yan];rfl
#print "-"
theorem Qs5{f:W->W->MH->bJ}{a b:ME}{σ:MSt}{h h1 c:MH}{x y:W}{r:bJ}(g:fJ a=cP x h1)(d:b σ h1=cP y c)(e:f x y c=r):Qi f a b σ h=r:=by
 unfold Qi;rw[g,Ni,d];exact e
theorem Qph{c i:Int}{σ:MSt}{hh:MH}(a:σ[4]?=sO (bG c))(b:c/2%6=i):QB (Qi wEq (Qi JL (Qi V8 dF bY) pB) (mC d3)) σ hh=sO (true,hh):=by
 have:Qe 4 σ hh=sO (aL c,hh):=by unfold Qe;rw[a]
 simp[this,b]
theorem QcH{c i:Int}{σ:MSt}{hh:MH}(a:σ[4]?=sO (bG c))(b:¬c/2%6=i):QB (Qi wEq (Qi JL (Qi V8 dF bY) pB) (mC d3)) σ hh=sO (false,hh):=by
 have:Qe 4 σ hh=sO (aL c,hh):=by unfold Qe;rw[a]
 simp[this,b]
section
variable{ns:eX}{q:W}{r:aD}{k:Nat}
theorem Qqb(A:∀y∈r,Rw7 y)(o:r≠[])(B:zO6)(L:k<=5){v4 v5 v6 v7:cH}{h:MH} :
  ∃H G b a h',YU (lS ns q r (bG k) v4 v5 v6 v7) h=sO (.nx (lS ns q r (bG k) H G b a) h'):=by
 have x:=mxc ns (i:=300+cT) (k:=300+k) aQ aF h;have g1:=Qbm ns (300+k);generalize mx ns (300+k)=c at x g1;obtain⟨s,b,a,m,w,p⟩:=QnK (ns:=ns) (q:=q) (k:=k) (h0:=h) (c:=c) (v6:=v6) (v7:=v7) A o B L
 have u:Q6 4 (QD 2 Qw (Qb aE (Qb (Qi Zd (mC (.int 300)) cB) Ql))) (lS ns q r (bG k) v4 v5 v6 v7) h=sO (.nx (lS ns q r (bG k) (bG c) v5 v6 v7) h):=by
  unfold lS;simp[x]
 have t:Q6 5 (mFn Qdi (Qb aV Ql)) (lS ns q r (bG k) (bG c) v5 v6 v7) h=sO (.nx (lS ns q r (bG k) (bG c) (lV h) v6 v7) (h++[c7 r])):=rfl;have f:s.length<=1500:=w▸B;have I:s≠[]:=λz=>by subst z;exact o (NT.mp w.symm)
 have M:(h++[vJ])[h.length]?=sO (fL s):=aY
 have J:0<r.length:=Df.mpr o;have e:∀n:Nat,(lS ns q r (bG k) (bG c) (sO (aC n)) b a)[4]?=sO (bG c):=d7;unfold YU
 by_cases l:c/2%6=0
 ·have P:atI (CB r) 0=sO (.str r[0]):=by
   have:=W2 (xs:=zQ) (j:=0) (v:=.str r[0]) (kS J);exact this
  have N:Y3 (CB s) sD nO=(s.drop 1).map .str:=by rw[Qro,FN]
  have F:(s.length-1)+1<=sizeLine:=Ng (by exact Nk (Ng wZ f) aA:_<=1501) aA
  obtain⟨h',g⟩:=Qmz (ns:=ns) (q:=q) (r:=r) (k:=k) (s:=s.drop 1++[r[0]]) (n:=h.length+1) (hh:=h++[c7 s,zr4]) (λy d=>by
   show zB d
   ·exact m y (FH d)
   ·rw[j2 d];exact Qoa (A _ (Dj _))) aF (by simp;exact Nv (Nk f aA)) aF g1 (c:=c) (v6:=b) (v7:=a)
  refine⟨aS c,sO (.ref (eY h)),b,a,h',?_⟩;show zr3;refine YC (σ1:=lS ns q r (bG k) (bG c) (sO (.ref (eY h))) b a) (h1:=h++[c7 s,zr4]) (Qnk (Qph (e _) l) ?_) ?_
  rotate_left
  ·refine YC (G9 (QcH (e _) (by rw[l];decide)) rfl) ?_;exact g
  have O:Qi Qei (mSl hY (ZW aM) Ji) (mFn JB (Qb (Qi wIx aV bC) Ql)) (lS ns q r (bG k) (bG c) (lV h) b a) (h++[c7 s])=sO (.ref (eY h),h++[c7 s,zr4]):=by
   have R:mSl hY (ZW aM) Ji (lS ns q r (bG k) (bG c) (lV h) b a) (h++[c7 s])=sO (.lst ((s.drop 1).map .str),h++[c7 s]):=by
    unfold lS;simp only[<-N];simp
   have Q:mFn JB (Qb (Qi wIx aV bC) Ql) (lS ns q r (bG k) (bG c) (lV h) b a) (h++[c7 s])=sO (.lst [.str r[0]],h++[c7 s]):=by
    unfold lS;simp[P,show Ix from a']
   refine Qs5 R Q ?_;have:=(if_pos (by rw[Nz,D3];exact F):(if((s.drop 1).map W.str).length+[W.str r[0]].length<=sizeLine then sO (W.ref (h++[vJ]).length,(h++[vJ])++[MO.lst ((s.drop 1).map W.str++[W.str r[0]])])else nO)=_)
   refine Eq.trans this ?_;simp
  exact QcX O
 ·by_cases D:c/2%6=1
  ·obtain⟨h',g⟩:=Qmz (ns:=ns) (q:=q) (r:=r) (k:=k) (s:=s++[Str.ofString ""]) (n:=h.length) (hh:=h++[.lst ((s++[Str.ofString ""]).map .str)]) (λy d=>by
    show zB d
    ·exact m y d
    ·rw[j2 d];exact T7.lit aA) aF (by simp;exact Nv (Nk f aA)) aF g1 (c:=c) (v6:=b) (v7:=a)
   refine⟨aS c,sO U',b,a,h',?_⟩;show zr3;refine zv6 l;refine YC ?_ g;refine Qnk (Qph (e _) D) ?_;have z:s.length<sizeLine:=Nk f aA;unfold lS;simp[tyW,z]
  ·obtain⟨h',g⟩:=Qmz (ns:=ns) (q:=q) (r:=r) (k:=k) (s:=s) (n:=h.length) (hh:=h++[c7 s]) m I (Ng f aA) M g1 (c:=c) (v6:=b) (v7:=a);refine⟨aS c,sO U',b,a,h',?_⟩;show zr3;refine zv6 l;refine zv6 D;exact g
#print "-"
theorem QaT:∀p:c8,zd1=pA+p.length:=by
 intro p
 induction p with
 |nil=>
  exact rfl
 |cons x p a=>
  have:=a;simp only[Zx,als,Iw,Nw,N6]at this ⊢;have e:(UM x).length=iW+1:=by simp[UM]
  lia
theorem Qhk{N:Nat}{bs ws:aD}{p:c8}(g:tM)(j:pA<=1000)(h:∀x∈bs,Nm x)(hw:∀x∈ws,Nm x)(a:∀x∈p,uV):RP p:=by
 refine⟨a,fC x c l e,by rw[QaT];have:=g.len;lia⟩;show A5 i f c;refine⟨bs,ws,(p.map (·.1)).drop (i+1),h,hw,bQ z b,g.ok i x f l e⟩;obtain⟨q,d,rfl⟩:=NI.mp (FH b);exact a q d
theorem main(ns:eX)(I:zQ3):∃h',Y5 [.frz (pK W)] []=sO (dM,h'):=by
 obtain⟨bs,ws,R,g,P⟩:=QdE ns I;obtain⟨Wd,Q,O,D,v,u,T⟩:=Qeq ns g;obtain⟨n,N,H,F⟩:=QbS g O D v u;have m:=Qhk n N g.hb D H;obtain⟨f1,f2⟩:=Qdg m;have A:=λh=>QbX (h:=h) m;have z:=λh=>Qmh (h:=h) m n.ne F;have S:∀h,Xp (.str SZ) [.lst yL] h=sO (.str uR,h):=λh=>by rw[Qi3];exact jL f2
 have eq:∀h,wEq Fa Fa h=sO (dM,h):=λh=>by
  rw[QoL Qis Qis (Ng QnM aA) (Ng QnM aA),Qdj _ Qis]
 have G:∀y∈Zx Q,Rw7 y:=λy C=>by
  rw[<-WI]at C;show p8 e M C;exact QnF (Qe4 m e M)
 have o:Zx Q≠[]:=by
  obtain⟨x,r,rfl⟩:∃x r,Q=x::r:=by cases Q with
   |nil=>exact absurd rfl n.ne
   |cons a b=>exact BV
  simp[Zx,UM]
 have s:(Zx Q).length<=1500:=by rw[QaT];have:=n.len;lia
 have Y:Q6 1 (QD 2 Jr (Qb aE (Qb (QD 2 Z8 (Qb aE (Qb zK5 Ql))) Ql))) [hF,nO,nO,nO,nO,nO,nO,nO] []=sO (.nx [hF,bU Q,nO,nO,nO,nO,nO,nO] []):=by
  simp[P,T]
 have X:Q6 2 (QD 1 Vh (Qb aK Ql)) [hF,bU Q,nO,nO,nO,nO,nO,nO] []=sO (.nx zq7 []):=by
  unfold lS;simp[A]
 obtain⟨E,h',e,l,i,f,d,c,rfl⟩:=JD (items:=Zj 0 6) (b:=ZK 3) (body:=YU) (λj B h=>∃l i f d c,B=lS ns Fa (Zx Q) l i f d c) (Zj 0 6) 0 zq7 [] ⟨_,_,_,_,_,rfl⟩ (by
  rintro j w L B h ⟨l,i,f,d,c,rfl⟩
  obtain⟨J,rfl⟩:=Yd L;obtain⟨x4,x5,x6,Z,h',e⟩:=Qqb (ns:=ns) (q:=Zb Q) (k:=j) G o s aQ (v4:=i) (v5:=f) (v6:=d) (v7:=c) (h:=h)
  exact⟨lS ns Fa (Zx Q) (bG j) i f d c,rfl,_,_,dU e,_,_,_,_,_,rfl⟩)
 have U:JX (KA (Qb pB Ql)) (ZK 3) YU zq7 []=sO (.nx (lS ns Fa (Zx Q) l i f d c) h'):=by
  unfold JX;rw[Kn (j:=6) rfl aA,Ni];exact e
 show Aq h';unfold Y5 QN;refine Qqj (YC Y (YC X (YC U ?_)));unfold lS;generalize YY Q=t at *;generalize Zb Q=p at *;generalize(Zx Q).map W.str=rr at *;simp[S,z,eq,tyW]
open PySem.W
structure ClsE(K:Nd)(mg:c'):Prop where
 ex:∃R c0 c1 c2 c3 c4 c5 c6 fI,∃(fdI:FuncData) (oI:Obj),Cls K mg R yB fI fdI oI
theorem Qpj{K:Nd}{t:c'}{h:Heap}{R n d m j i g f e:Addr}{s kV a pm cd ct:Value}{y r:dW}{w:oZ}(X:nQ)(G:tG t)(B:nsIn K mainGlobals "RoomError"=sO (sO (aC R)))
  (J:nsIn K mainGlobals "NoProgram"=sO (sO (aC n))) (I:nsIn K mainGlobals "NoText"=sO (sO (aC d))) (H:nsIn K mainGlobals "NoWord"=sO (sO (aC m))) (F:nsIn K mainGlobals "NoPlace"=sO (sO (aC j))) (E:nsIn K mainGlobals "TooBig"=sO (sO (aC i))) (D:nsIn K mainGlobals "NoRow"=sO (sO (aC g))) (C:nsIn K mainGlobals "NoName"=sO (sO (aC f))) (O:findIn K (aC d) "__init__"=sO (sO (aC e)))
  (l:iF e=sO ⟨s,y,.func (fnOf "__init__" "NoText.__init__" (KB KH) (VH KH) (Qn KH) .none kV a pm r cd ct),w⟩) (c:codeIn K cd "NoText.__init__"=true) (k:keepIn K (aC e)=true)
  (b:∀(kV a pm:Value) (r:dW) (p ct:Value) (us:aZ),us.length=2->bindArgs (fnOf "__init__" "NoText.__init__" (KB KH) (VH KH) (Qn KH) .none kV a pm r p ct) MR=pure ((zG:aD).zip us))
  (o:s=Bl) (A:QqG K R [n,d,m,j,i,g,f]=true) (v:CS n=true) (u:xmB K d (sO (aC e))=true) (N:CS m=true) (M:CS j=true) (L:CS i=true) (x5:CS g=true) (x6:CS f=true)
  (x:findCls K (aC R) oE "__init__"=sO (.val He)) (z:findIn K (aC d) "at"=sO nO):ClsE K t:=by
 have T:=Qox A;refine⟨R,n,d,m,j,i,g,f,e,_,_,T,rfl,wX B,?_,Qoy v (T.xc _ aF),Qoy u (T.xc _ aF),x,z,Qcv l c k,(Qcv l c k).binds (ps:=zG) b,l,o⟩;rw[wX J,wX I,wX H,wX F,wX E,wX D,wX C];rfl
theorem QlD{P:Program}{w:World}{K:Nd}{a:c'}{base:Heap}(cl:ClsE K a)(cf:a "ValueError"=nO)(as:DefAt K a "_law_words" Vl cJ)(aw:DefAt K a "_law_mixed" VE zA)(ab:DefAt K a "_law_backed" Vb vI)(bo:DefAt K a "_law_row" Xv dE)(a8:DefAt K a "_law_rows" V9 cJ)(av:DefAt K a "_law_names" ZV t9)(au:DefAt K a "_law_sized" JN nZ)(aa:DefAt K a "_law_closed" J7 zP)(a9:DefAt K a "_law_line" VY sQ)(ax:DefAt K a "_law_lines" Vq sM)(H:DefAt K a "_law_program" ZQ vR)(n:DefAt K a "is_small_letter" ZX rN)(bx:DefAt K a "is_name" Kr cY)(U:DefAt K a "is_part_row" J2 gV)(o:DefAt K a "has_right_names" ZC jE)(E:DefAt K a "level_change" JH dE)(a4:DefAt K a "line_size" X9 yU)(a3:DefAt K a "size_with" X1 HX)(a6:DefAt K a "flat_size" VZ cJ)(bj:DefAt K a "is_small" XA xA)(a7:DefAt K a "all_lines" Xa cJ)(bn:DefAt K a "boxes_in" Xw dE)(bm:DefAt K a "boxes_of" Xx cJ)(bh:DefAt K a "words_of" XB cJ)(bi:DefAt K a "own_size" XR iY)(F:DefAt K a "keeps_bounds" Jz jE)(a5:DefAt K a "is_blocks" VW iY)(bz:DefAt K a "is_line" Kt cY)(bw:DefAt K a "is_part" Ks cY)(ar:DefAt K a "is_program" Vu cY)(X:DefAt K a "giving_line" J1 qO)(b6:DefAt K a "gives" YI dE)(x:DefAt K a "line_of_words" Jo gV)(i:DefAt K a "read_program" Z7 rO)(Y:DefAt K a "_law_spoilt" JY vS)(I:DefAt K a "_law_is_name" JA Ah)(ba:DefAt K a "_law_fits" Xd tE)(Z:DefAt K a "_law_is_row" Jq tL)(t:DefAt K a "_law_first_bad" Jb CH)(G:DefAt K a "_law_refused" Z5 wB)(cb:DefAt K a "law" Qav u6)(b5:Glob K a "GIVING" Ky)(b9:Glob K a "KEPT" Ys)(aq:Glob K a "MOST_BACKS" Vv)(S:Glob K a "MOST_BLOCKS" J3)(ap:Glob K a "MOST_BOXES" Vz)(D:Glob K a "MOST_LETTERS" Zt)(ao:Glob K a "MOST_LINES" Vn)(an:Glob K a "MOST_PARTS" Jg)(a2:Glob K a "MOST_WAYS" Xe)(am:Glob K a "MOST_WORDS" Vt)(C:GTab w K a "NAMES_BEHIND" Qy)(B:Glob K a "UNENTERED_DO" Vx)(z:a "all"=nO)(ca:a "bool"=nO)(h:a "enumerate"=nO)(b3:a "int"=nO)(c:a "isinstance"=nO)(b:a "len"=nO)(b4:a "list"=nO)(b2:a "max"=nO)(ce:a "min"=nO)(l:a "range"=nO)(A:a "reversed"=nO)(al:a "set"=nO)(y:a "sorted"=nO)(b8:a "str"=nO)(d:a "tuple"=nO)(b1:a "zip"=nO):Cal P w K a base 9 "law" u6 Y5:=by
 obtain⟨R,c0,c1,c2,c3,c4,c5,c6,fI,cg,oI,T⟩:=cl.ex;have ay:Cal P w K a base 1 "_law_words" cJ JQ:=UK as al y;have e:Cal P w K a base 1 "_law_mixed" zA Qw:=UH aw b;have ak:Cal P w K a base 2 "_law_backed" vI Jr:=W9 ab b l d e ay;have bv:Cal P w K a base 1 "_law_row" dE JJ:=QaP bo b;have be:Cal P w K a base 2 "_law_rows" cJ Vh:=Qad a8 bv;have a0:Cal P w K a base 1 "_law_names" t9 QU:=UF av l;have az:Cal P w K a base 7 "_law_sized" nZ JP:=UG au;have aj:Cal P w K a base 1 "_law_closed" zP Z2:=WZ aa A;have bf:Cal P w K a base 1 "_law_line" sQ JG:=GA a9 b;have a1:Cal P w K a base 2 "_law_lines" sM JM:=UU ax b3 b d aj bf;have O:Cal P w K a base 8 "_law_program" vR Z8:=Wz H b3 b b2 ce l d a1 e a0 az;have p:Cal P w K a base 1 "is_small_letter" rN QV:=Yz n;have r:Cal P w K a base 2 "is_name" cY Zi:=Qb3 bx b9 D z c b b8 p;have j:Cal P w K a base 3 "is_part_row" gV QS:=Ut U b r;have s:Cal P w K a base 1 "has_right_names" jE Zh:=Yn o z h b al;have L:Cal P w K a base 1 "level_change" dE JE:=Ww E;have bb:Cal P w K a base 1 "line_size" yU ZY:=Qai a4 B;have u:Cal P w K a base 2 "size_with" HX Q0:=Gx a3 b2 L bb;have bd:Cal P w K a base 3 "flat_size" cJ JK:=GZ a6 A u;have br:Cal P w K a base 1 "is_small" xA Je:=Qa8 bj aq S ao;have g:Cal P w K a base 1 "all_lines" cJ QH:=Gs a7;have bu:Cal P w K a base 1 "boxes_in" dE Jk:=Qa2 bn b4;have bt:Cal P w K a base 2 "boxes_of" cJ VP:=QaU bm al y g bu;have bp:Cal P w K a base 2 "words_of" cJ VL:=QaS bh al y g;have bq:Cal P w K a base 3 "own_size" iY JF:=Qar bi u;have M:Cal P w K a base 4 "keeps_bounds" jE ZO:=Wq F ap a2 am z b al g bt bd br bq bp;have bc:Cal P w K a base 1 "is_blocks" iY Vg:=GD a5 b;have ae:Cal P w K a base 3 "is_line" cY ZL:=QbM bz C z c b b8 d r;have b0:Cal P w K a base 4 "is_part" cY JR:=QbL bw z c b d bc ae r;have m:Cal P w K a base 5 "is_program" cY Q2:=UL ar an z c b d s b0 M;have af:Cal P w K a base 1 "giving_line" qO Zr:=Ui X;have b7:Cal P w K a base 1 "gives" dE XZ:=Qfp b6 b5;have f:Cal P w K a base 4 "line_of_words" gV QL:=Y8 x b d b7 af ae;have J:Cal P w K a base 6 "read_program" rO JC:=Wy i h d b1 j m f;have ah:Cal P w K a base 1 "_law_spoilt" vS Jp:=Ul Y b b2;have Q:Cal P w K a base 1 "_law_is_name" Ah Ja:=Ws I b;have bg:Cal P w K a base 2 "_law_fits" tE Zu:=Qac ba b b1 Q;have ai:Cal P w K a base 3 "_law_is_row" tL Z4:=Uc Z bg;have v:Cal P w K a base 4 "_law_first_bad" CH QX:=YR t b l ai;have N:Cal P w K a base 7 "_law_refused" wB Zs:=Wt T G ca b3 c cf (QgL T i h d b1 j m f);have cc:Cal P w K a base 9 "law" u6 Y5:=QlW cb b b4 l ak v e O N be ah J;exact cc
#print "-My"
#print "-_Z"
namespace PySem.W.Fast
def tw15172211298969839005:=0
def tw10165611030791720343:=0
def tw15001045226754673225:=0
def tw6626628915353544073:=0
def tw6467749587496761832:=0
def tw10760435528797026619:=0
def tw13998464715384938047:=0
def tw9236127171523488008:=0
def tw5987726206801068093:=0
def tw13495305041856874194:=0
def tw15781964780562577923:=0
def tw16460259958722814459:=0
def tw17011726424433793080:=0
def tw2889484749737278268:=0
def tw14487700867494827565:=0
def tw15982942603142737133:=0
def tw5948623185036479089:=0
def tw7169531129721677975:=0
def tw17419347566852837882:=0
def tw2933878968369620356:=0
def tw4462131792124398090:=0
def tw8962855549409624897:=0
def tw2577908675508747236:=0
def tw14826688655064004177:=0
def tw6863328686838895596:=0
def tw13985724726158771925:=0
def tw3163636163390459006:=0
def tw12746793552208303496:=0
def tw6090574866538670671:=0
def tw8196113164777179516:=0
def tw3171456228465749383:=0
def tw16546255130676017148:=0
def tw18087319595615086044:=0
def tw1621341580105822007:=0
def tw3763145457638683005:=0
def tw8128702978344336484:=0
def tw12748855196271242442:=0
def tw17248896246329512242:=0
def tw7682935985860480279:=0
def tw2584210681210767097:=0
def tw13074323588763554003:=0
def tw5532800259718576274:=0
def tw15370627111089639869:=0
def tw1477128822360370705:=0
def tw12433787481142157319:=0
def tw6770613604850674945:=0
def tw18262053614416954562:=0
def tw7873075672408578087:=0
def tw15863976788199060659:=0
def tw2931907474772918112:=0
def tw10946530835007648278:=0
def tw10053140021689344459:=0
def tw5450096896795345000:=0
def tw320180950542535534:=0
def tw5697905427535956886:=0
def tw12743159357884199680:=0
def tw13043033345870147628:=0
def tw14261872102962904986:=0
def tw5505924216602812061:=0
def tw15382667562350545087:=0
def tw17237650517889727993:=0
def tw7783002204749066185:=0
def tw7823536056396953807:=0
def tw18423393601265816440:=0
def tw15560986360473139723:=0
def tw18079313048202458326:=0
def tw10787425622840195631:=0
def tw12085859795129887132:=0
def tw2023562650919192272:=0
def tw9853061591254353243:=0
def tw11978120739237906337:=0
def tw6060129845750353947:=0
def tw10719693637262277469:=0
def tw2871632793603567295:=0
def tw1592445338008768056:=0
def tw12663386865218195186:=0
def tw8267022428880120937:=0
def tw9557954036372723286:=0
def tw612292491521431533:=0
def tw13976159754739219781:=0
def tw4922713889194729672:=0
def tw15153827981339339004:=0
def tw12448287423887216688:=0
def tw12578729283255669568:=0
def tw3775451672269798572:=0
def tw8359389281870401359:=0
def tw16283005353732454179:=0
def tw17418536913381116464:=0
def tw7346558344792999749:=0
def tw16387635660352461073:=0
def tw3279110714090117270:=0
def tw12214625628368033120:=0
def tw13593511955256329190:=0
def tw1120883377915955590:=0
def tw5443902283278417949:=0
def tw17058516085005467810:=0
def tw11026594908238127247:=0
def tw7998959772610242657:=0
def tw14170279852946761260:=0
def tw17897932327305174518:=0
def tw7460664794151484700:=0
def tw9573323400151474273:=0
def tw17067198432989596982:=0
def tw9805893000166879297:=0
def tw6850122785070403679:=0
def tw10917558626966340181:=0
def tw6432078060941997630:=0
def tw15490179754413373411:=0
def tw5581192998028680248:=0
def tw1501611335590799661:=0
def tw2681106083400844467:=0
def tw71858204824684841:=0
def tw6850751523479299688:=0
def tw10300394993703331099:=0
def tw6444764527704490939:=0
def tw13521368421939752490:=0
def tw4481390493012283266:=0
def tw8378397309540369494:=0
def tw6068566488025778318:=0
def tw13076842100650571364:=0
def tw5945150170070683618:=0
def tw13086083194672970375:=0
def tw3261162440035785797:=0
def tw2566917146229198845:=0
def tw2614465201231851836:=0
def tw4162073292978001242:=0
def tw10592009478734589752:=0
def tw1245774966935215536:=0
#print "-PySem.W.Fast"
end
open PySem PySem.W PyProof.Rows _Z
local macro_rules | `(tactic| walk_at $s:str) => do
  match s.getString with
  | "~1" => `(tactic| (dsimp only [L2.KOf]; refine' Mi.WR $(Lean.mkIdent `KX) $(Lean.mkIdent `G) ?a ?l ?c ?k ?b; (case a => k_is); (case l => k_is); (case c => k_is); (case k => k_is); (case b => exact fun _ _ _ _ _ _ => Mi.ar1 (fun _ => rfl))))
  | "~2" => `(tactic| (dsimp only [L2.KOf]; refine' Mi.WR $(Lean.mkIdent `KX) $(Lean.mkIdent `G) ?a ?l ?c ?k ?b; (case a => k_is); (case l => k_is); (case c => k_is); (case k => k_is); (case b => exact fun _ _ _ _ _ _ => Mi.ar2 (fun _ _ => rfl))))
  | "~3" => `(tactic| (dsimp only [L2.KOf]; refine' Mi.WR $(Lean.mkIdent `KX) $(Lean.mkIdent `G) ?a ?l ?c ?k ?b; (case a => k_is); (case l => k_is); (case c => k_is); (case k => k_is); (case b => exact fun _ _ _ _ _ _ => Mi.ar3 (fun _ _ _ => rfl))))
  | "~6" => `(tactic| (dsimp only [L2.KOf]; refine' Mi.WR $(Lean.mkIdent `KX) $(Lean.mkIdent `G) ?a ?l ?c ?k ?b; (case a => k_is); (case l => k_is); (case c => k_is); (case k => k_is); (case b => exact fun _ _ _ _ _ _ => Mi.ar6 (fun _ _ _ _ _ _ => rfl))))
  | "~b" => `(tactic| (refine' PySem.W.mg_none_of $(Lean.mkIdent `KX) $(Lean.mkIdent `G) ?a; (case a => k_is)))
  | _ => Lean.Macro.throwUnsupported
set_option maxRecDepth 100000 in
set_option maxHeartbeats 0 in
theorem PySem.Challenge.cw_doneroom_k07_texts_that_are_none_holds : PySem.Challenge.rw_doneroom_k07_texts_that_are_none.Holds := by
  w_on; o_law; k_head; (case hw => w_witness2)
  k_fill
  refine Mi.Qq5 (l := PySem.Challenge.rw_doneroom_k07_texts_that_are_none) (st := My.Qav) (sem := My.Y5) (k := 9) rfl rfl ⟨rfl, by decide, by decide⟩ rfl (fun w h Y => PySem.W.kIn_of Y) (fun _ _ _ _ _ _ _ _ => .of_eq rfl) ?F My.main
  case F =>
    intro w mg h KX G
    have d__law_words : Mi.DefAt (L2.KOf KX) mg "_law_words" My.Vl ["program"] := by walk_at "~1"
    have d__law_mixed : Mi.DefAt (L2.KOf KX) mg "_law_mixed" My.VE ["script", "k"] := by walk_at "~2"
    have d__law_backed : Mi.DefAt (L2.KOf KX) mg "_law_backed" My.Vb ["script", "program"] := by walk_at "~2"
    have d__law_row : Mi.DefAt (L2.KOf KX) mg "_law_row" My.Xv ["line"] := by walk_at "~1"
    have d__law_rows : Mi.DefAt (L2.KOf KX) mg "_law_rows" My.V9 ["program"] := by walk_at "~1"
    have d__law_names : Mi.DefAt (L2.KOf KX) mg "_law_names" My.ZV ["number", "many"] := by walk_at "~2"
    have d__law_sized : Mi.DefAt (L2.KOf KX) mg "_law_sized" My.JN ["parts", "number"] := by walk_at "~2"
    have d__law_closed : Mi.DefAt (L2.KOf KX) mg "_law_closed" My.J7 ["waiting"] := by walk_at "~1"
    have d__law_line : Mi.DefAt (L2.KOf KX) mg "_law_line" My.VY ["number", "boxes", "words"] := by walk_at "~3"
    have d__law_lines : Mi.DefAt (L2.KOf KX) mg "_law_lines" My.Vq ["numbers", "boxes", "words", "others", "deep", "left"] := by walk_at "~6"
    have d__law_program : Mi.DefAt (L2.KOf KX) mg "_law_program" My.ZQ ["script", "top"] := by walk_at "~2"
    have d_is_small_letter : Mi.DefAt (L2.KOf KX) mg "is_small_letter" My.ZX ["sign"] := by walk_at "~1"
    have d_is_name : Mi.DefAt (L2.KOf KX) mg "is_name" My.Kr ["thing"] := by walk_at "~1"
    have d_is_part_row : Mi.DefAt (L2.KOf KX) mg "is_part_row" My.J2 ["words"] := by walk_at "~1"
    have d_has_right_names : Mi.DefAt (L2.KOf KX) mg "has_right_names" My.ZC ["parts"] := by walk_at "~1"
    have d_level_change : Mi.DefAt (L2.KOf KX) mg "level_change" My.JH ["line"] := by walk_at "~1"
    have d_line_size : Mi.DefAt (L2.KOf KX) mg "line_size" My.X9 ["line", "sizes"] := by walk_at "~2"
    have d_size_with : Mi.DefAt (L2.KOf KX) mg "size_with" My.X1 ["lines", "sizes"] := by walk_at "~2"
    have d_flat_size : Mi.DefAt (L2.KOf KX) mg "flat_size" My.VZ ["program"] := by walk_at "~1"
    have d_is_small : Mi.DefAt (L2.KOf KX) mg "is_small" My.XA ["size"] := by walk_at "~1"
    have d_all_lines : Mi.DefAt (L2.KOf KX) mg "all_lines" My.Xa ["program"] := by walk_at "~1"
    have d_boxes_in : Mi.DefAt (L2.KOf KX) mg "boxes_in" My.Xw ["line"] := by walk_at "~1"
    have d_boxes_of : Mi.DefAt (L2.KOf KX) mg "boxes_of" My.Xx ["program"] := by walk_at "~1"
    have d_words_of : Mi.DefAt (L2.KOf KX) mg "words_of" My.XB ["program"] := by walk_at "~1"
    have d_own_size : Mi.DefAt (L2.KOf KX) mg "own_size" My.XR ["lines"] := by walk_at "~1"
    have d_keeps_bounds : Mi.DefAt (L2.KOf KX) mg "keeps_bounds" My.Jz ["parts"] := by walk_at "~1"
    have d_is_blocks : Mi.DefAt (L2.KOf KX) mg "is_blocks" My.VW ["lines"] := by walk_at "~1"
    have d_is_line : Mi.DefAt (L2.KOf KX) mg "is_line" My.Kt ["thing"] := by walk_at "~1"
    have d_is_part : Mi.DefAt (L2.KOf KX) mg "is_part" My.Ks ["thing"] := by walk_at "~1"
    have d_is_program : Mi.DefAt (L2.KOf KX) mg "is_program" My.Vu ["thing"] := by walk_at "~1"
    have d_giving_line : Mi.DefAt (L2.KOf KX) mg "giving_line" My.J1 ["box", "words"] := by walk_at "~2"
    have d_gives : Mi.DefAt (L2.KOf KX) mg "gives" My.YI ["line"] := by walk_at "~1"
    have d_line_of_words : Mi.DefAt (L2.KOf KX) mg "line_of_words" My.Jo ["words"] := by walk_at "~1"
    have d_read_program : Mi.DefAt (L2.KOf KX) mg "read_program" My.Z7 ["text"] := by walk_at "~1"
    have d__law_spoilt : Mi.DefAt (L2.KOf KX) mg "_law_spoilt" My.JY ["row", "number"] := by walk_at "~2"
    have d__law_is_name : Mi.DefAt (L2.KOf KX) mg "_law_is_name" My.JA ["word"] := by walk_at "~1"
    have d__law_fits : Mi.DefAt (L2.KOf KX) mg "_law_fits" My.Xd ["words", "form"] := by walk_at "~2"
    have d__law_is_row : Mi.DefAt (L2.KOf KX) mg "_law_is_row" My.Jq ["row", "ahead"] := by walk_at "~2"
    have d__law_first_bad : Mi.DefAt (L2.KOf KX) mg "_law_first_bad" My.Jb ["rows"] := by walk_at "~1"
    have d__law_refused : Mi.DefAt (L2.KOf KX) mg "_law_refused" My.Z5 ["text", "at"] := by walk_at "~2"
    have d_law : Mi.DefAt (L2.KOf KX) mg "law" My.Qav ["script"] := by walk_at "~1"
    have g_GIVING : Mi.Glob (L2.KOf KX) mg "GIVING" My.Ky := by
      dsimp only [L2.KOf]
      refine' Mi.QaD KX G ?a ?l ?z ?s
      (case a => k_is); (case l => k_is)
      (case z => decide)
      (case s => repeat constructor)
    have g_KEPT : Mi.Glob (L2.KOf KX) mg "KEPT" My.Ys := by
      dsimp only [L2.KOf]
      refine' Mi.QaD KX G ?a ?l ?z ?s
      (case a => k_is); (case l => k_is)
      (case z => decide)
      (case s => repeat constructor)
    have g_MOST_BACKS : Mi.Glob (L2.KOf KX) mg "MOST_BACKS" My.Vv := by
      dsimp only [L2.KOf]
      refine' Mi.X6 KX G ?a
      (case a => k_is)
    have g_MOST_BLOCKS : Mi.Glob (L2.KOf KX) mg "MOST_BLOCKS" My.J3 := by
      dsimp only [L2.KOf]
      refine' Mi.X6 KX G ?a
      (case a => k_is)
    have g_MOST_BOXES : Mi.Glob (L2.KOf KX) mg "MOST_BOXES" My.Vz := by
      dsimp only [L2.KOf]
      refine' Mi.X6 KX G ?a
      (case a => k_is)
    have g_MOST_LETTERS : Mi.Glob (L2.KOf KX) mg "MOST_LETTERS" My.Zt := by
      dsimp only [L2.KOf]
      refine' Mi.X6 KX G ?a
      (case a => k_is)
    have g_MOST_LINES : Mi.Glob (L2.KOf KX) mg "MOST_LINES" My.Vn := by
      dsimp only [L2.KOf]
      refine' Mi.X6 KX G ?a
      (case a => k_is)
    have g_MOST_PARTS : Mi.Glob (L2.KOf KX) mg "MOST_PARTS" My.Jg := by
      dsimp only [L2.KOf]
      refine' Mi.X6 KX G ?a
      (case a => k_is)
    have g_MOST_WAYS : Mi.Glob (L2.KOf KX) mg "MOST_WAYS" My.Xe := by
      dsimp only [L2.KOf]
      refine' Mi.X6 KX G ?a
      (case a => k_is)
    have g_MOST_WORDS : Mi.Glob (L2.KOf KX) mg "MOST_WORDS" My.Vt := by
      dsimp only [L2.KOf]
      refine' Mi.X6 KX G ?a
      (case a => k_is)
    have g_NAMES_BEHIND : Mi.GTab w (L2.KOf KX) mg "NAMES_BEHIND" My.Qy := by
      dsimp only [L2.KOf]
      refine' Mi.QlN KX G ?ga ?gl ?gk ?gs ?gt
      (case ga => k_is); (case gl => k_is)
      (case gk => repeat (first | exact True.intro | refine ⟨⟨_, _, rfl, rfl⟩, ?_⟩))
      (case gs => decide)
      (case gt => repeat (first | exact Mi.TabIs.nil | refine Mi.TabIs.cons rfl rfl ?_))
    have g_UNENTERED_DO : Mi.Glob (L2.KOf KX) mg "UNENTERED_DO" My.Vx := by
      dsimp only [L2.KOf]
      change Mi.Glob _ _ _ (Mi.W.tup (List.map Mi.W.int [1, 0, 0, 0])); refine' Mi.QeW KX G ?a ?l ?z ?s
      (case a => k_is); (case l => k_is)
      (case z => decide)
      (case s => repeat constructor)
    have b_all : mg "all" = none := by walk_at "~b"
    have b_bool : mg "bool" = none := by walk_at "~b"
    have b_enumerate : mg "enumerate" = none := by walk_at "~b"
    have b_int : mg "int" = none := by walk_at "~b"
    have b_isinstance : mg "isinstance" = none := by walk_at "~b"
    have b_len : mg "len" = none := by walk_at "~b"
    have b_list : mg "list" = none := by walk_at "~b"
    have b_max : mg "max" = none := by walk_at "~b"
    have b_min : mg "min" = none := by walk_at "~b"
    have b_range : mg "range" = none := by walk_at "~b"
    have b_reversed : mg "reversed" = none := by walk_at "~b"
    have b_set : mg "set" = none := by walk_at "~b"
    have b_sorted : mg "sorted" = none := by walk_at "~b"
    have b_str : mg "str" = none := by walk_at "~b"
    have b_tuple : mg "tuple" = none := by walk_at "~b"
    have b_zip : mg "zip" = none := by walk_at "~b"
    have b_VE : mg "ValueError" = none := by walk_at "~b"
    have cl : My.ClsE (L2.KOf KX) mg := by
      dsimp only [L2.KOf]
      refine' My.Qpj KX G ?aR ?a0 ?a1 ?a2 ?a3 ?a4 ?a5 ?a6 ?ai ?l ?c ?k ?b ?o ?kb ?x0 ?x1 ?x2 ?x3 ?x4 ?x5 ?x6 ?rf ?na
      (case aR => k_is)
      (case a0 => k_is)
      (case a1 => k_is)
      (case a2 => k_is)
      (case a3 => k_is)
      (case a4 => k_is)
      (case a5 => k_is)
      (case a6 => k_is)
      (case ai => k_is); (case l => k_is); (case c => k_is); (case k => k_is)
      (case b => exact fun _ _ _ _ _ _ us hl => match us, hl with | [_, _], _ => rfl)
      (case o => exact rfl)
      (case kb => kernel_rfl)
      (case x0 => kernel_rfl)
      (case x1 => kernel_rfl)
      (case x2 => kernel_rfl)
      (case x3 => kernel_rfl)
      (case x4 => kernel_rfl)
      (case x5 => kernel_rfl)
      (case x6 => kernel_rfl)
      (case rf => k_is); (case na => k_is)
    exact ⟨d_law, fun base kb nb => My.QlD cl b_VE d__law_words d__law_mixed d__law_backed d__law_row d__law_rows d__law_names d__law_sized d__law_closed d__law_line d__law_lines d__law_program d_is_small_letter d_is_name d_is_part_row d_has_right_names d_level_change d_line_size d_size_with d_flat_size d_is_small d_all_lines d_boxes_in d_boxes_of d_words_of d_own_size d_keeps_bounds d_is_blocks d_is_line d_is_part d_is_program d_giving_line d_gives d_line_of_words d_read_program d__law_spoilt d__law_is_name d__law_fits d__law_is_row d__law_first_bad d__law_refused d_law g_GIVING g_KEPT g_MOST_BACKS g_MOST_BLOCKS g_MOST_BOXES g_MOST_LETTERS g_MOST_LINES g_MOST_PARTS g_MOST_WAYS g_MOST_WORDS g_NAMES_BEHIND g_UNENTERED_DO b_all b_bool b_enumerate b_int b_isinstance b_len b_list b_max b_min b_range b_reversed b_set b_sorted b_str b_tuple b_zip⟩
