import PyProof.Rows.All
import Wide.All
import OpenK.AllK
import Wide.FinOn
import Lean
import PyProof.EqAt
import PyProof.EqKinds
import PyProof.TupleCall
import KE.KDictList
import KE.KRevIter
import KE.KTurns
import PyProof.Rows.SetFrom
import PyProof.Rows.SortStr
import PyProof.FactsAll.set
import PyProof.Draws
import PyProof.EnumMake
import PyProof.AttrMissSeq
import KE.KDictOf
import PyProof.Walks
import KE.KSortTup
import KE.KItemsList
import KE.KDictSum
import PyProof.Rows.SortRev
import KE.KDictLaws
import PyProof.DictTruth
import PyProof.MinMaxWalk
import PyProof.WalkInts
import PyProof.ExcAttrAll.ValueError
import KE.KIsAll
import PyProof.DictRoadsH
import PyProof.TupleOfGen
import PySem.Challenge.RW_doneroom_k59_trees_looked_at
set_option compiler.extract_closed false
set_option compiler.reuse false
set_option genSizeOf false
section
variable{G:Prop}
theorem xa{p q:Prop}(h:p∧q)(k:p→q→G):G:=k h.1 h.2
theorem xaa{p q r:Prop}(h:p∧q∧r)(k:p→q→r→G):G:=k h.1 h.2.1 h.2.2
theorem xaaa{p q r s:Prop}(h:p∧q∧r∧s)(k:p→q→r→s→G):G:=k h.1 h.2.1 h.2.2.1 h.2.2.2
theorem xaaaa{p q r s t:Prop}(h:p∧q∧r∧s∧t)(k:p→q→r→s→t→G):G:=k h.1 h.2.1 h.2.2.1 h.2.2.2.1 h.2.2.2.2
theorem xaaaaa{p q r s t m:Prop}(h:p∧q∧r∧s∧t∧m)(k:p→q→r→s→t→m→G):G:=k h.1 h.2.1 h.2.2.1 h.2.2.2.1 h.2.2.2.2.1 h.2.2.2.2.2
theorem xaaea{p q:Prop}{r s:A→Prop}(h:p∧q∧∃x,r x∧s x)(k:p→q→∀x,r x→s x→G):G:=h.2.2.elim fun x h0=>k h.1 h.2.1 x h0.1 h0.2
theorem xaea{p:Prop}{q r:A→Prop}(h:p∧∃x,q x∧r x)(k:p→∀x,q x→r x→G):G:=h.2.elim fun x h0=>k h.1 x h0.1 h0.2
theorem xaeeaa{p:Prop}{q r s:A→B→Prop}(h:p∧∃x y,q x y∧r x y∧s x y)(k:p→∀x y,q x y→r x y→s x y→G):G:=h.2.elim fun x h0=>h0.elim fun y h1=>k h.1 x y h1.1 h1.2.1 h1.2.2
theorem xe{p:A→Prop}(h:∃x,p x)(k:∀x,p x→G):G:=h.elim fun x h=>k x h
theorem xea{p q:A→Prop}(h:∃x,p x∧q x)(k:∀x,p x→q x→G):G:=h.elim fun x h=>k x h.1 h.2
theorem xeaa{p q r:A→Prop}(h:∃x,p x∧q x∧r x)(k:∀x,p x→q x→r x→G):G:=h.elim fun x h=>k x h.1 h.2.1 h.2.2
theorem xeaaaa{p q r s t:A→Prop}(h:∃x,p x∧q x∧r x∧s x∧t x)(k:∀x,p x→q x→r x→s x→t x→G):G:=h.elim fun x h=>k x h.1 h.2.1 h.2.2.1 h.2.2.2.1 h.2.2.2.2
theorem xeaae{p q:A→Prop}{r:A→B→Prop}(h:∃x,p x∧q x∧∃y,r x y)(k:∀x,p x→q x→∀y,r x y→G):G:=h.elim fun x h=>h.2.2.elim fun y h1=>k x h.1 h.2.1 y h1
theorem xee{p:A→B→Prop}(h:∃x y,p x y)(k:∀x y,p x y→G):G:=h.elim fun x h=>h.elim fun y h=>k x y h
theorem xeea{p q:A→B→Prop}(h:∃x y,p x y∧q x y)(k:∀x y,p x y→q x y→G):G:=h.elim fun x h=>h.elim fun y h=>k x y h.1 h.2
theorem xeeaa{p q r:A→B→Prop}(h:∃x y,p x y∧q x y∧r x y)(k:∀x y,p x y→q x y→r x y→G):G:=h.elim fun x h=>h.elim fun y h=>k x y h.1 h.2.1 h.2.2
theorem xeeaaa{p q r s:A→B→Prop}(h:∃x y,p x y∧q x y∧r x y∧s x y)(k:∀x y,p x y→q x y→r x y→s x y→G):G:=h.elim fun x h=>h.elim fun y h=>k x y h.1 h.2.1 h.2.2.1 h.2.2.2
theorem xeeaaaa{p q r s t:A→B→Prop}(h:∃x y,p x y∧q x y∧r x y∧s x y∧t x y)(k:∀x y,p x y→q x y→r x y→s x y→t x y→G):G:=h.elim fun x h=>h.elim fun y h=>k x y h.1 h.2.1 h.2.2.1 h.2.2.2.1 h.2.2.2.2
theorem xeeaaaaa{p q r s t m:A→B→Prop}(h:∃x y,p x y∧q x y∧r x y∧s x y∧t x y∧m x y)(k:∀x y,p x y→q x y→r x y→s x y→t x y→m x y→G):G:=h.elim fun x h=>h.elim fun y h=>k x y h.1 h.2.1 h.2.2.1 h.2.2.2.1 h.2.2.2.2.1 h.2.2.2.2.2
theorem xeeea{p q:A→B→C→Prop}(h:∃x y z,p x y z∧q x y z)(k:∀x y z,p x y z→q x y z→G):G:=h.elim fun x h=>h.elim fun y h=>h.elim fun z h=>k x y z h.1 h.2
theorem xeeeaa{p q r:A→B→C→Prop}(h:∃x y z,p x y z∧q x y z∧r x y z)(k:∀x y z,p x y z→q x y z→r x y z→G):G:=h.elim fun x h=>h.elim fun y h=>h.elim fun z h=>k x y z h.1 h.2.1 h.2.2
theorem xeeeaaa{p q r s:A→B→C→Prop}(h:∃x y z,p x y z∧q x y z∧r x y z∧s x y z)(k:∀x y z,p x y z→q x y z→r x y z→s x y z→G):G:=h.elim fun x h=>h.elim fun y h=>h.elim fun z h=>k x y z h.1 h.2.1 h.2.2.1 h.2.2.2
theorem xeeeaaaa{p q r s t:A→B→C→Prop}(h:∃x y z,p x y z∧q x y z∧r x y z∧s x y z∧t x y z)(k:∀x y z,p x y z→q x y z→r x y z→s x y z→t x y z→G):G:=h.elim fun x h=>h.elim fun y h=>h.elim fun z h=>k x y z h.1 h.2.1 h.2.2.1 h.2.2.2.1 h.2.2.2.2
theorem xeeeea{p q:A→B→C→D→Prop}(h:∃x y z u,p x y z u∧q x y z u)(k:∀x y z u,p x y z u→q x y z u→G):G:=h.elim fun x h=>h.elim fun y h=>h.elim fun z h=>h.elim fun u h=>k x y z u h.1 h.2
theorem xeeeeaaa{p q r s:A→B→C→D→Prop}(h:∃x y z u,p x y z u∧q x y z u∧r x y z u∧s x y z u)(k:∀x y z u,p x y z u→q x y z u→r x y z u→s x y z u→G):G:=h.elim fun x h=>h.elim fun y h=>h.elim fun z h=>h.elim fun u h=>k x y z u h.1 h.2.1 h.2.2.1 h.2.2.2
theorem xeeeeeaaa{p q r s:A→B→C→D→E→Prop}(h:∃x y z u v,p x y z u v∧q x y z u v∧r x y z u v∧s x y z u v)(k:∀x y z u v,p x y z u v→q x y z u v→r x y z u v→s x y z u v→G):G:=h.elim fun x h=>h.elim fun y h=>h.elim fun z h=>h.elim fun u h=>h.elim fun v h=>k x y z u v h.1 h.2.1 h.2.2.1 h.2.2.2
theorem xeeeeeeaaaa{p q r s t:A→B→C→D→E→F→Prop}(h:∃x y z u v w,p x y z u v w∧q x y z u v w∧r x y z u v w∧s x y z u v w∧t x y z u v w)(k:∀x y z u v w,p x y z u v w→q x y z u v w→r x y z u v w→s x y z u v w→t x y z u v w→G):G:=h.elim fun x h=>h.elim fun y h=>h.elim fun z h=>h.elim fun u h=>h.elim fun v h=>h.elim fun w h=>k x y z u v w h.1 h.2.1 h.2.2.1 h.2.2.2.1 h.2.2.2.2
end
theorem y11{p q:A→Prop}(x:A)(h0:p x)(h1:q x):∃x,p x∧q x:=⟨x,h0,h1⟩
theorem y12{p q r:A→Prop}(x:A)(h0:p x)(h1:q x)(h2:r x):∃x,p x∧q x∧r x:=⟨x,h0,h1,h2⟩
theorem y13{p q r s:A→Prop}(x:A)(h0:p x)(h1:q x)(h2:r x)(h3:s x):∃x,p x∧q x∧r x∧s x:=⟨x,h0,h1,h2,h3⟩
theorem y14{p q r s t:A→Prop}(x:A)(h0:p x)(h1:q x)(h2:r x)(h3:s x)(h4:t x):∃x,p x∧q x∧r x∧s x∧t x:=⟨x,h0,h1,h2,h3,h4⟩
theorem y15{p q r s t m:A→Prop}(x:A)(h0:p x)(h1:q x)(h2:r x)(h3:s x)(h4:t x)(h5:m x):∃x,p x∧q x∧r x∧s x∧t x∧m x:=⟨x,h0,h1,h2,h3,h4,h5⟩
theorem y16{p q r s t m n:A→Prop}(x:A)(h0:p x)(h1:q x)(h2:r x)(h3:s x)(h4:t x)(h5:m x)(h6:n x):∃x,p x∧q x∧r x∧s x∧t x∧m x∧n x:=⟨x,h0,h1,h2,h3,h4,h5,h6⟩
theorem y17{p q r s t m n o:A→Prop}(x:A)(h0:p x)(h1:q x)(h2:r x)(h3:s x)(h4:t x)(h5:m x)(h6:n x)(h7:o x):∃x,p x∧q x∧r x∧s x∧t x∧m x∧n x∧o x:=⟨x,h0,h1,h2,h3,h4,h5,h6,h7⟩
theorem y20{p:A→B→Prop}(x:A)(y:B)(h0:p x y):∃x y,p x y:=⟨x,y,h0⟩
theorem y21{p q:A→B→Prop}(x:A)(y:B)(h0:p x y)(h1:q x y):∃x y,p x y∧q x y:=⟨x,y,h0,h1⟩
theorem y22{p q r:A→B→Prop}(x:A)(y:B)(h0:p x y)(h1:q x y)(h2:r x y):∃x y,p x y∧q x y∧r x y:=⟨x,y,h0,h1,h2⟩
theorem y23{p q r s:A→B→Prop}(x:A)(y:B)(h0:p x y)(h1:q x y)(h2:r x y)(h3:s x y):∃x y,p x y∧q x y∧r x y∧s x y:=⟨x,y,h0,h1,h2,h3⟩
theorem y24{p q r s t:A→B→Prop}(x:A)(y:B)(h0:p x y)(h1:q x y)(h2:r x y)(h3:s x y)(h4:t x y):∃x y,p x y∧q x y∧r x y∧s x y∧t x y:=⟨x,y,h0,h1,h2,h3,h4⟩
theorem y25{p q r s t m:A→B→Prop}(x:A)(y:B)(h0:p x y)(h1:q x y)(h2:r x y)(h3:s x y)(h4:t x y)(h5:m x y):∃x y,p x y∧q x y∧r x y∧s x y∧t x y∧m x y:=⟨x,y,h0,h1,h2,h3,h4,h5⟩
theorem y26{p q r s t m n:A→B→Prop}(x:A)(y:B)(h0:p x y)(h1:q x y)(h2:r x y)(h3:s x y)(h4:t x y)(h5:m x y)(h6:n x y):∃x y,p x y∧q x y∧r x y∧s x y∧t x y∧m x y∧n x y:=⟨x,y,h0,h1,h2,h3,h4,h5,h6⟩
theorem y30{p:A→B→C→Prop}(x:A)(y:B)(z:C)(h0:p x y z):∃x y z,p x y z:=⟨x,y,z,h0⟩
theorem y31{p q:A→B→C→Prop}(x:A)(y:B)(z:C)(h0:p x y z)(h1:q x y z):∃x y z,p x y z∧q x y z:=⟨x,y,z,h0,h1⟩
theorem y32{p q r:A→B→C→Prop}(x:A)(y:B)(z:C)(h0:p x y z)(h1:q x y z)(h2:r x y z):∃x y z,p x y z∧q x y z∧r x y z:=⟨x,y,z,h0,h1,h2⟩
theorem y33{p q r s:A→B→C→Prop}(x:A)(y:B)(z:C)(h0:p x y z)(h1:q x y z)(h2:r x y z)(h3:s x y z):∃x y z,p x y z∧q x y z∧r x y z∧s x y z:=⟨x,y,z,h0,h1,h2,h3⟩
theorem y34{p q r s t:A→B→C→Prop}(x:A)(y:B)(z:C)(h0:p x y z)(h1:q x y z)(h2:r x y z)(h3:s x y z)(h4:t x y z):∃x y z,p x y z∧q x y z∧r x y z∧s x y z∧t x y z:=⟨x,y,z,h0,h1,h2,h3,h4⟩
theorem y35{p q r s t m:A→B→C→Prop}(x:A)(y:B)(z:C)(h0:p x y z)(h1:q x y z)(h2:r x y z)(h3:s x y z)(h4:t x y z)(h5:m x y z):∃x y z,p x y z∧q x y z∧r x y z∧s x y z∧t x y z∧m x y z:=⟨x,y,z,h0,h1,h2,h3,h4,h5⟩
theorem y40{p:A→B→C→D→Prop}(x:A)(y:B)(z:C)(u:D)(h0:p x y z u):∃x y z u,p x y z u:=⟨x,y,z,u,h0⟩
theorem y41{p q:A→B→C→D→Prop}(x:A)(y:B)(z:C)(u:D)(h0:p x y z u)(h1:q x y z u):∃x y z u,p x y z u∧q x y z u:=⟨x,y,z,u,h0,h1⟩
theorem y42{p q r:A→B→C→D→Prop}(x:A)(y:B)(z:C)(u:D)(h0:p x y z u)(h1:q x y z u)(h2:r x y z u):∃x y z u,p x y z u∧q x y z u∧r x y z u:=⟨x,y,z,u,h0,h1,h2⟩
theorem y43{p q r s:A→B→C→D→Prop}(x:A)(y:B)(z:C)(u:D)(h0:p x y z u)(h1:q x y z u)(h2:r x y z u)(h3:s x y z u):∃x y z u,p x y z u∧q x y z u∧r x y z u∧s x y z u:=⟨x,y,z,u,h0,h1,h2,h3⟩
theorem y44{p q r s t:A→B→C→D→Prop}(x:A)(y:B)(z:C)(u:D)(h0:p x y z u)(h1:q x y z u)(h2:r x y z u)(h3:s x y z u)(h4:t x y z u):∃x y z u,p x y z u∧q x y z u∧r x y z u∧s x y z u∧t x y z u:=⟨x,y,z,u,h0,h1,h2,h3,h4⟩
theorem y50{p:A→B→C→D→E→Prop}(x:A)(y:B)(z:C)(u:D)(v:E)(h0:p x y z u v):∃x y z u v,p x y z u v:=⟨x,y,z,u,v,h0⟩
theorem y51{p q:A→B→C→D→E→Prop}(x:A)(y:B)(z:C)(u:D)(v:E)(h0:p x y z u v)(h1:q x y z u v):∃x y z u v,p x y z u v∧q x y z u v:=⟨x,y,z,u,v,h0,h1⟩
theorem y52{p q r:A→B→C→D→E→Prop}(x:A)(y:B)(z:C)(u:D)(v:E)(h0:p x y z u v)(h1:q x y z u v)(h2:r x y z u v):∃x y z u v,p x y z u v∧q x y z u v∧r x y z u v:=⟨x,y,z,u,v,h0,h1,h2⟩
theorem y53{p q r s:A→B→C→D→E→Prop}(x:A)(y:B)(z:C)(u:D)(v:E)(h0:p x y z u v)(h1:q x y z u v)(h2:r x y z u v)(h3:s x y z u v):∃x y z u v,p x y z u v∧q x y z u v∧r x y z u v∧s x y z u v:=⟨x,y,z,u,v,h0,h1,h2,h3⟩
section
open Lean
def obS:=["eeeeeeaaaa","eeeeeaaa","eeeaaaa","eeaaaaa","eeeeaaa","eeeaaa","eeaaaa","eeaaa","eeeaa","aeeaa","eeeea","aaaaa","eaaaa","eeaa","aaea","eeea","eaae","aaaa","eaa","eea","aaa","aea","ea","aa","ee","a","e"]
def obG(ps:Array (TSyntax ``Parser.Tactic.rcasesPatLo))(t:Term):MacroM (TSyntax `tactic):=do
 let n:=ps.size
 if n<2 then Macro.throwUnsupported
 let p←ps.mapM fun p=>do `(rintroPat|$(←`(rcasesPat|($p))):rcasesPat)
 let c←if t.raw.isIdent then `(tactic|try clear $(⟨t.raw⟩)) else `(tactic|skip)
 let a←(obS.toArray.filter (·.length<n)).mapM fun s=>do
  let k:=s.length
  let x:=mkIdent ("x"++s).toName
  if k+1==n then `(tacticSeq|refine $x $t ?_;$c;rintro $p*)
  else
   let q:=ps.extract k n
   let r:=p.extract 0 k
   `(tacticSeq|refine $x $t ?_;$c;rintro $r* z;obtain⟨$[$q],*⟩:=z)
 let a:=a.push (←`(tacticSeq|rcases $t:term with ⟨$[$ps],*⟩))
 `(tactic|first $[|$a]*)
def obI(ts:Array Term)(f:Term->MacroM (TSyntax ``Lean.Parser.Tactic.tacticSeq)):MacroM (TSyntax `tactic):=do
 let n:=ts.size
 if n<3||n>9 then Macro.throwUnsupported
 let a←([3,2,1,4,5].filter (·<n)).toArray.mapM fun i=>do f (←`($(mkIdent s!"y{i}{n-1-i}".toName) $ts*))
 let a:=a.push (←f (←`((⟨$[$ts],*⟩))))
 `(tactic|first $[|$a]*)
end
local macro_rules
 |`(tactic|exact⟨$[$t],*⟩)=>obI t fun x=>`(tacticSeq|exact $x)
 |`(tactic|refine⟨$[$t],*⟩)=>obI t fun x=>`(tacticSeq|refine $x)
local macro_rules|`(tactic|obtain⟨$[$p],*⟩:=$t)=>obG p t
theorem zq{a c:A}{b d:B}(e:some (a,b)=some (c,d)):a=c∧b=d:=by cases e;exact⟨rfl,rfl⟩
local macro_rules|`(tactic|cases $h:ident)=>`(tactic|first|subst $h|(have z:=Option.some.inj $h;clear $h;subst z)|(obtain⟨x,y⟩:=zq $h;clear $h;subst x;subst y)|cases ($h))
set_option Elab.async false
set_option bootstrap.genMatcherCode false
set_option linter.all false
set_option maxRecDepth 100000
section
open Lean
def zS(m:NameMap Syntax):Nat->Syntax->Syntax
 |n+1,.node _ k a=>.node .none k (a.map (zS m n))
 |_,.ident i r v p=>match m.find? v.getRoot with
  |some s=>if v.isAtomic then s else mkIdent (v.replacePrefix v.getRoot s.getId)
  |_=>.ident i r v p
 |_,s=>s
def zA(d:NameMap (List Name×Syntax))(s:Syntax):Option Syntax:=
 let (f,a):=if s.isOfKind `Lean.Parser.Term.app then (s[0],s[1].getArgs) else (s,#[])
 match d.find? f.getId with
 |some (p,b)=>if p.length==a.size then some (if p==[] then b else zS ((p.zip a.toList).foldl (fun m x=>m.insert x.1 x.2) {}) 999 b) else none
 |_=>none
def zE(d:NameMap (List Name×Syntax)):Nat->Syntax->Syntax
 |n+1,s=>match zA d s with
  |some t=>t
  |_=>match s with
   |.node _ k a=>
    let a:=if k==`Lean.Parser.Term.basicFun then a.modify 0 fun b=>.node .none `null (b.getArgs.map fun x=>if x.isOfKind `Lean.Parser.Term.hole then mkIdent `_x else x) else a
    .node .none k (if k==`null then a.foldl (fun r x=>
     let y:=if x.isOfKind `Lean.Parser.Tactic.show then zA d x[1] else none
     match y with
     |some y=>if y.isOfKind `Lean.Parser.Term.byTactic then r++y[1][0][0].getArgs else r.push (zE d n x)
     |_=>r.push (zE d n x)) #[] else a.map (zE d n))
   |.atom _ v=>.atom .none v
   |.ident _ r v p=>.ident .none r v p
   |x=>x
 |_,s=>s
def zC(d:NameMap (List Name×Syntax))(c:Syntax):Syntax:=
 match c[1].isStrLit? with
 |some s=>if s.front != '-' then c else .node .none `Lean.Parser.Command.end #[.atom .none "end",.node .none `null (if s.length==1 then #[] else #[mkIdent (s.drop 1).toName,.node .none `null #[]])]
 |_=>zE d 999 c
def zM(cs:Array Syntax):MacroM Syntax:=do
 unless cs[0]!.isOfKind `Lean.Parser.Command.check do Macro.throwUnsupported
 let d:=cs[0]![1][1].getSepArgs.foldr (fun x (d:NameMap (List Name×Syntax))=>
  let l:=x[1][0].getArgs.toList.map (·.getId)
  let b:=x[1][3]
  d.insert l.head! (l.tail!,zE d 999 (if b.isOfKind `Lean.Parser.Term.paren then b[1] else b))) {}
 return mkNullNode ((cs.extract 1 cs.size).map (zC d))
end
local macro_rules|`(mutual $cs* end)=>zM (cs.map (·.raw))
mutual
#check[
λbE b=>(by show xA;exact b.mono aE;exact rfl;show aA;exact Qb _),
λaA=>(by refine Qa ?_ ?_),
λaU=>(by show sK;decide;show f3),
λb9=>(by exact rfl;show eI),
λcV=>⟨rfl,rfl,rfl,lU,rfl,lU,lU⟩,
λbC=>(by show fX;refine Qo ?_ ?_ ?_ ?_ ?_ ?_),
λaJ=>(by show cX;exact Qb _),
λcA=>(by exact Qb _;show jJ),
λdC=>(by refine Qw Qx Qs ?_ ?_ NL ?_ ?_ ?_ ?_ ?_;show c6),
λaE=>by decide,
λaB=>by simp,
λbB=>(by exact rfl;exact cG),
λbD=>(by show fE;refine Qt ?_),
λaK=>mC (.int 1),
λbJ=>Value->eA,
λaT=>model prog w,
λcW=>(by show fX;refine QC ?_ ?_ ?_),
λcZ i=>(by refine Qr (QP ?_) Qk ?_ ?_;exact i),
λaY=>mC w9,
λaN t c=>(by obtain⟨t,rfl⟩:=c),
λbU=>model X.prog X.w,
λjH h=>(by show xA;exact h.mono bR;exact rfl),
λbF=>Option (W×MH),
λAd=>(by show uB;refine QE nT rfl cG ?_ ?_;refine QE nT rfl cG ?_ ?_;exact Jv;show eI),
λbT=>List (Addr×Obj),
λaH=>by lia,
λbW=>Inv X pins σ H s,
λiR=>(by show fX;show jf4),
λcF=>by show C9,
λd8=>.ref s.heap.objs.size,
λeI=>(by first|exact wA|exact No),
λaX=>List Value,
λiT=>Cal P w K mg base 1 "_law_take" jO Qm,
λfL=>c9 s b=sO o->fU h'=sO o,
λaG=>Qg 0,
λc6=>(by exact rfl;assumption),
λbZ T=>by show kQ T,
λaO=>List Str,
λmP z=>(by rcases z with⟨rfl,rfl⟩|⟨_,rfl,rfl⟩|⟨_,rfl,rfl⟩|⟨_,rfl,rfl⟩),
λdD a d o p e=>(by obtain⟨⟨a,d⟩,o,p⟩:=dH e),
λcM=>(by refine QN QD Qk ?_ ?_),
λbV=>Ext.refl _,
λaI=>List W,
λeJ=>⟨way,part,k,false⟩,
λaP=>by simp,
λeD b o q r=>(by show hV b o q r;cases q),
λk7=>(by show wV;refine Xi NO NX N3 Za ?_ ?_;exact Qb _),
λaZ=>List Nat,
λbR=>by omega,
λcN i=>by show kQ i,
λcO=>(by exact Qb _;exact Qh),
λd9=>List (Nat×Nat),
λaL=>Qg 1,
λi3 h v d a b=>(by show z8 h;obtain⟨v,d,rfl,a,b⟩:=h),
λjI c=>.tup [Mu,aC n,.tup (lN c)],
λbL k=>sO (jF k),
λjJ=>(by exact Qe;decide;decide;show f3),
λdZ=>λ_ _ _ _ _=>?_,
λeF=>["program","spot"],
λcG=>Or.inl rfl,
λgG=>St.emptySet zb2,
λcB=>["program"],
λi4=>(x==("__debug__":Str))=false,
λaC i=>.int i,
λaD a=>.ref a,
λdA=>mC (.int 2),
λeZ c=>.ref c.heap.objs.size,
λnQ=>X.fn x=true\/zr5=qP,
λeK=>Str->yR,
λaQ=>by lia,
λmQ=>["makers","clashing","many","rooms","tree"],
λaR=>Qg 2,
λcH=>.dic tW,
λbK g c=>(by rw[g]at c;cases c),
λaV=>id rfl,
λmR=>Mi.blk X scope cl Nb f Y C fp zh1,
λaW=>Qg 3,
λdJ j t f e=>(by obtain⟨j,t,f⟩:=dH e),
λcR=>mg "len"=nO,
λiC=>(by show fE;refine QC ?_ ?_ ?_),
λdE=>.type "list",
λzL8 a=>(by unfold Builtin.SmallTypes.nextOf;refine Na (EG (name:=zt8) hit.typeIs D2 (Ej D2 hit.typeIs LA ?_ (Lr _)));refine(show wpAny _ _ (field jU 0>>=_) _ _ s from Na (F0 a hd (x:=aF l) rfl (show wpAny _ _ (if(fJ l==Value.none)=true then _ else _) _ _ s from ?_)));rw[if_neg (show¬((fJ l==Value.none)=true)from Ea)];refine(show wpAny _ _ (field jU 1>>=_) _ _ s from Na (F0 a hd (x:=.int i 0) rfl ?_))),
λnR=>["numbers","clashing","many","rooms","tree"],
λbX h=>(Nd.mp h).1,
λdL=>ls.map cdL,
λaF a=>.ref a,
λfM a=>(false,BH a),
λa'=>Qg 4,
λgA=>emptySet BU,
λc9 s b=>s.heap.get? b,
λbY=>Option W,
λbM=>List Pt,
λmT=>["makers","clashing","many","taken"],
λbA=>List V,
λcI a σ=>Inv X a σ H s,
λgB=>List (Tr×Addr×V),
λb'=>.ref 0,
λdM V=>List (Key×V),
λbO=>(by refine QB ?_),
λcX=>(by refine Qp ?_ ?_),
λzk0=>forIn ifs true λc r=>if r=true then do let ok <-isTrue c zr0 (eval c zr0);ju3 else jr0,
λgH=>X.A.units+64<cLine,
λeS=>(by exact Qb _;exact Qe),
λjK=>zC5 x=sO c,
λrF=>["feed","size","menus","later","opens","dos"],
λzk1=>lV ns k q8 (sO (Vh p)) (sO (qD H)) (sO hU) (sO (lsN h8)) (sO l0) (sO (lsQ (ms gY))) v9 x10 x11 x12,
λeA=>Shared->Prop,
λbH d=>if_pos d,
λnT=>by dsimp only[blk];show C9,
λjL=>Qc (mC za9) Ql,
λcC=>by omega,
λcD=>List Spt,
λeT=>["lines","k"],
λdP=>x.2.length,
λeX=>.ref h.length,
λkU=>(by refine PMW.pt ?_;refine Jd ?_ ?_),
λf3=>(by exact rfl;exact rfl),
λdS=>Option Int,
λAe n=>k==NameKind.free&&jn8&&MC n==kJ,
λiD h=>(by show MV h;subst h),
λnU=>["numbers","many","rooms","feed"],
λd5=>by decide,
λj4 b=>(by show vW b;exact Qb _),
λkX c x=>λb o z=>c.sub b o (x.f b o z),
λcJ=>Nu _ _,
λhU=>.lst (M.map VJ),
λwZ=>Cal P w K mg base 1 "open_rooms" uO QU,
λgC=>GoodP N bs ws p,
λgI=>(by refine Jg ?_;exact Qh),
λPe I=>(by unfold Builtin.«set.__init__» noKeywords Builtin.Frozenset.updateFrom;generalize I:pyIter=PI;wp_walk;subst I),
λf4=>mg "range"=nO,
λk8=>SetTable.grown d.size,
λPf t=>(by refine t.heap b o ?_ (Nl _ w6);show zu6;exact⟨NB lt,by rw[d];exact NB (EV lt)⟩),
λx0=>Cal P w K mg base 1 "_law_open" yB Q3,
λbQ h=>if_neg h,
λeY=>out.map QF,
λcT=>.int i,
λu5=>∀x,foldedSetIterable iter X.env x=pure x,
λeN=>Array Value,
λf5=>A.handled=nO,
λlP b u=>cQ b=sO u->fU h'=sO u,
λzk2 f d b=>(by refine Na (DD f d b ?_);dsimp only;unfold setsByText;refine Na (Na (Fg fP));show wpAny _ _ (if zp4=true then _ else _) _ _ _),
λeO e=>(by cases e;unfold eqW),
λk9 a d l j=>Mi.blk X scope cl Nb a d C l j,
λu6=>(by first|exact wA|exact No|assumption),
λi5 y q c=>(by obtain⟨y,q,rfl⟩:=NI.mp c),
λfG=>Hp->VK->Prop,
λlQ u q=>(by obtain rfl:u=Value.ref iA:=q),
λc7 z j n r e x=>(by obtain⟨z,j,n,r,e⟩:=x),
λkA=>(by show BW h;exact h),
λeG=>Rh K R h H,
λj5=>["program","rows"],
λiU e g d p v q=>(by show p8 e g;obtain⟨d,p⟩:=v q),
λAf=>Cal P w K mg base 8 "clashes" xO ZL,
λiE=>λz=>tU z,
λgD=>⟨rfl,rfl⟩,
λdF=>Nz _ rfl,
λdG=>λ_=>rfl,
λAg=>(by show fE;show jf4),
λcK=>.lst [],
λcL c=>Nt c.symm,
λdO=>List Int,
λrG=>(by refine Q5 ZX Qs ?_ ?_ EB ?_ ?_ ?_ ?_ ?_),
λmU a b=>.ask (a.lt b _) (a.lt b _) ?_,
λCp c=>(by show zs3 c;rcases c with rfl<;>rfl),
λp9=>["makers","clashing","taken"],
λPg=>(by refine congrArg (λd=>@ob _ _ d BT) (funext (k3 p));show lO c h p;cases c<;>rfl),
λc5=>Qg 5,
λeU=>sq out q,
λdQ=>Hp->Prop,
λCq=>starEach i1 X.env=(false,BH e)::starEach es X.env,
λfN=>(by exact Qh;exact Qe),
λbG a f=>λa f=>?_,
λlS a=>Heap.SameBut a s.heap h',
λf9=>⟨_,rfl⟩,
λAh=>s.heap.push { cls:=sJ,data:=zH },
λc8=>Nv _,
λfH=>X.calm=true,
λeB v=>sO (jF v),
λmV=>sO (.tup [JY bs,JY ws]),
λzL9 b g c e=>(by obtain⟨l,b,g,c⟩:=id m;unfold pyNext;refine Na (LJ (EG (name:=zt8) hit.typeIs E1 (Ej E1 hit.typeIs Iu ?_ (Ii _))));refine Na (Nh (Na (Na ?_)));first|refine Na (DG hit.typeIs js2)|refine Na (Fi hit.typeIs js2)),
λnV=>["tree","numbers","feed"],
λAi=>.ListComp elt [⟨tg,iter,ifs,0⟩] scope pos,
λjM=>GoodP 700 bs ws p,
λxA=>(by refine Qj (by assumption) ?_ ?_ ?_ ?_ ?_ ?_ ?_),
λCr=>Cal P w K mg base 2 "found_behind" xN QQ,
λu7=>["program","manner","many","tree"],
λkB=>R++[(n,fK)],
λcP e r=>(by have e:=r.length),
λgE=>(by exact Qe;exact Qz),
λmW=>JQ h.len m8 o,
λfA=>.inl rfl,
λd6=>(k:Int),
λxB=>(by repeat (any_goals (first|assumption|wp_step))),
λpA=>s.toks+(QA prog w).draws k,
λkC=>(by refine Z9 ?_;exact Qb _),
λzM0 b c=>(by simp only[show Lq "dict_keyiterator"=false by decide,Er,if_false];refine(show wpAny _ _ (if(fJ d==Value.none)=true then _ else _) _ _ s from ?_);rw[if_neg (show¬((fJ d==Value.none)=true)from Ea)];refine Na (Nh (Na (FG b c ?_)))),
λgY=>CL p out M,
λaM x c e=>λx c e=>?_,
λkD a=>(by rcases NM.mp a with rfl|a),
λj6=>mC vH,
λgZ=>["spot","k"],
λjN=>.lst L',
λi6=>.type "tuple",
λfI=>Rw K R w v,
λzM1=>(by show zV0;refine Na (m:=firstArgMember _ _) (Lw (a:=Value.none) zT8 (Eo ?_ zF0));show ju5),
λAj=>(by exact sc__law_names.nd;exact rfl;exact Id),
λpB w n p o e=>(by obtain⟨⟨w,n⟩,p,o⟩:=kS e;cases o),
λdU d j Q=>(by intro d s j H Q I h),
λPh=>λj=>((os'++g)[j]?).bind (thO zo6),
λeC f=>by simp[f],
λfO=>if_pos rfl,
λzk3=>(match R1.F a with|dY o=>sO o|none=>if zn3 then H1 a else nO),
λrH=>["program","manner","word"],
λgJ=>stW p out,
λiF=>Rws K R ws xs,
λjO=>["feed","many"],
λxC=>.Call (.Name x p) i1 [] pos,
λhV b o q r=>(by obtain⟨b,o,q⟩:=kS r),
λrJ=>(by show Pa;cases p),
λfB=>mC .non,
λh8=>mkr p out,
λCs=>Rq-AG,
λrK=>(by refine PMW.pt ?_;refine X3 ?_ ?_),
λcQ d=>h.get? d,
λxD=>(by show fE;refine Qo ?_ ?_ ?_ ?_ ?_ ?_),
λeP=>.ref 1,
λiG p u o=>p.trans (dX u o),
λiV P q=>(by rcases NU.mp P with q|q),
λpC a=>seqObj "list" a.toArray 0,
λcU x=>RelV x u,
λrL=>["program","rows","spot"],
λAk J4=>Cal P w K mg base 1 "made_word" jA J4,
λrM=>["steps","starts","shut"],
λnW r z=>by show u3 r;exact z,
λhW=>ls.map Zl,
λfX=>(by refine Qf ?_ ?_),
λlT=>List (Option Nat),
λlU=>by show C9,
λfJ a=>Value.ref a,
λzk4=>(s.heap.push { cls:=Bc,data:=PH a }).objs.size,
λzk5=>(s.heap.push { cls:=Bc,data:=zY8 }).objs.size,
λgK=>sq out j,
λrN=>["feed","boxes","words"],
λCt=>Cal P w K mg base 1 "level_change" jA Q9,
λmX=>(mkr p out).length,
λu8=>["program","manner","many"],
λPi=>(h.update a zz7).get? a=sO (Obj.putSet b t' o),
λdB=>Qg 6,
λgL h=>by simp at h,
λkY=>(by refine Qr Xl Qk ?_ ?_),
λkZ=>by simp;omega,
λlW m F o l O Y=>(by obtain⟨ad,m,rfl,F,o⟩:=l.lsAt O Y),
λdV=>(by refine Zc ?_),
λkE=>Qc jE Ql,
λiH=>(by exact JD;exact Qe),
λk'=>h[n]?=sO (QO f),
λfY=>List Expr,
λxE=>∀a o,R.F a=sO o->R'.F a=sO o,
λu9 d=>(by obtain⟨as,m,d⟩:=kS e;subst d),
λzk6 v=>(if_pos (show(frN w).Nodup/\∀j∈frN w,ns.length<=j from⟨Ez,λj v=>by simp[frN]at v⟩)),
λfZ=>sO wR,
λdW r=>(by unfold Rw at r),
λcY e b=>(by have e:=b.units),
λPj=>Rw K R p.1 zJ8/\tQ=sO q.1/\Rw K R p.2 q.2.2,
λjP=>mg "tuple"=nO,
λzM2 X l r n j=>(by unfold pyNext;refine Na (LJ (EG (name:=zt8) X slotN (Ej slotN X Qi8 ?_ (QoA _))));unfold Builtin.«set_iterator.__next__»;refine Na (Nh (Na (FN l rfl ?_)));dsimp only;refine Na (Lj r n j ?_)),
λzk7=>do if(<-isInstance e jg2)=true then pure nO else throw e,
λxF=>sO (.lst Go),
λuA=>sO (.lst TK),
λrO=>sO (.tup (lN c)),
λPk=>(by rw[d];show zu6;exact⟨NB oZ,EC m⟩),
λAm=>cg g HM Hb,
λCu=>Cal P w K mg base 1 "place_of" jB Zp,
λgN g=>⟨_,g,rfl⟩,
λPm=>(by rw[show n+(j+1)+1=n+1+j+1 by exact Dh _ _ _]at this;exact this),
λuB=>(by refine Ju ?_ ?_ ?_ ?_;exact rfl),
λl0=>.int (m:Nat),
λPn=>attributeBase o name X.env (lA o)=BH o,
λrP k=>⟨way,part,k+1,false⟩,
λjQ a k=>λa=>decide (a.1=k),
λpD=>mC (.str "clash"),
λeQ=>List Pl,
λgO=>List Addr,
λlX e=>(by rw[e]at this;cases this),
λfC w v=>Rw X.K R w v,
λkF=>p[part]?=sO x,
λPo=>typeOf sA=pure (.type "method_descriptor"),
λzM3 u=>(by rw[Nr,Nr]at this;by_cases u:zx7;·rw[K5 u];rw[show min d.length c.length=as.length by lia,show(d.length==c.length)=true by simp;omega,Yal]at this;exact this),
λlY h=>decide_eq_false h,
λj7 i l=>NN.mpr (fF i l),
λeR h=>I.tuple h,
λnX=>Loc X.env.scope x,
λlZ j r=>(by obtain⟨u,rfl,j⟩:=KH r),
λeV=>.lst ws,
λg6 x b=>(by rename_i x;cases b),
λjR=>.int (m:Nat),
λeW=>List Ln,
λnY=>mg "enumerate"=nO,
λh9=>drf h n,
λAn z e=>(by rw[QZ (λz=>by rw[z,g]at e;cases e)];exact e),
λm1=>λ_ _=>False,
λhX a=>(by simp at a;subst a),
λrQ x=>(by obtain⟨x,_,rfl⟩:=NI.mp hw),
λCv m x=>(by rw[NR]at *;rw[Nq]at hw;obtain⟨m,x,rfl⟩:=Nf.mp hw),
λl4=>ns.map .int,
λl5=>mC (.int 3),
λiI=>Vals xs us,
λg7=>.bl true,
λpE=>b<s.heap.objs.size,
λzk8=>(by cases a<;>first|(unfold pur at b;cases b.1;done)|(unfold X5;rw[if_pos b.1,this];rfl)),
λpF=>Array (Int×Value),
λpG=>["lines","opened"],
λpH=>["program","name"],
λuC=>List (Tr×Addr×Value),
λm2 t=>decide_eq_true t,
λuD=>BlkOk X scope cl Nb cp,
λkG=>Rh X.K R h H,
λxG=>(intKind prog w).hash x,
λjS=>(by exact Qh;exact Qh),
λgP a h=>sO (.nx a h),
λi7 b=>(by rcases b with b|b),
λzk9 t b=>λr t=>r=.ok (.ret HJ)/\OldK b.heap t.heap/\t.os=b.os/\M0 t,
λzl0=>["feed","many","letters","filler","first","step","size","place","back"],
λhC D c σ=>D c s σ H _ I h,
λzM4=>⟨ok.mod,ok.kind,ok.glob,ok.blt,ok.above,ok.inj,ok.has,ok.cab,ok.hd,ok.frames,ok.stk,ok.exf,ok.bs,ok.bsz,ok.noex,ok.exfs,ok.funs,ok.frf⟩,
λzM5=>["enumerate","zip","dict_itemiterator","dict_reverseitemiterator","odict_iterator","itertools.zip_longest","itertools.pairwise"].contains n,
λpI=>.dct r1::R,
λrR=>xs.length<=sizeLine,
λm3 κ=>List (κ×Value),
λfD=>.tup ws,
λi8=>.lst ws,
λi9=>Rw.bl _,
λgQ=>.int j,
λj8=>(by simpa using this),
λPp u=>SetI prog w h' s.heap.objs.size (uq u) zb2,
λm5=>shL M out w,
λAo b c d=>(by show BW h;obtain⟨a,xs,b,c,d⟩:=h),
λiJ w A f r M=>(by obtain⟨w,A,f⟩:=r.get M),
λiW b=>Rws K R ws b,
λAp d=>(by obtain⟨z,hd,d,rel,dd⟩:=QaC I.hok e),
λPq=>(by refine Qw (K4 ?_) Qs ?_ ?_ FQ ?_ ?_ ?_ ?_ ?_;exact rfl),
λl6=>List (κ×V),
λl7=>X.N[i]?=sO x,
λnZ=>if_pos (Zt _ _),
λuE=>(by refine Kh ?_ ?_ ?_ ?_ ?_ ?_),
λo3=>(by refine QN Xc Qk ?_ ?_),
λo5=>(by show wX;exact Qe),
λo6=>.lst Mh,
λj9=>L.map Z5,
λfK=>(j:Int),
λPr c a g f b=>(by cases e;show AT c;show B5 a g f b c),
λiK=>.lst xs,
λCw j c=>by rw[show n+(j+1)=n+1+j by lia];exact c,
λzl1=>⟨b.trs++[(k,k,k)],b.trs.length::b.st,b.rws++[sO b.trs.length]⟩,
λfP=>Nh ?_,
λAq x b=>(by rcases x with⟨t,rfl⟩|⟨b,rfl,rfl⟩),
λjT o p d=>λo p=>d o (NA _ p),
λiL=>.bl false,
λkH=>List (W×W),
λpJ=>live src items h,
λhF=>Nat×Nat,
λfQ=>(i:Int),
λfE=>(by refine Qi ?_),
λzl2=>swapsWith e (sO zu3) pos.line X.env=sS,
λCy=>I.hok.fresh (Nv s.heap.objs.size),
λmY=>.Name x pos,
λrS e=>(by dsimp only at e;split at e),
λpK a=>starEach [a] X.env,
λdH e=>Nc.mp e,
λm6=>x.2.map Zl,
λzl3=>c.heap.push { cls:=.type "slice",data:=.fields #[g,vu,.none] },
λzl4=>(by unfold th at e;obtain⟨us,h1,h2⟩:=kS e;subst h2;show BW h),
λxH=>items.size+1<scanBound,
λg8=>List Cd,
λm7=>x.2[k]?=sO l,
λxI=>sO (.lst (L.map QF),h),
λzM6=>((zu5:Nat):Int)==0&&mM==1&&(jf7-zu5)==items.size,
λuF=>o.data=.set es ep t,
λPs u=>t9=sO v->∃x c,u[i]?=sO x/\v=.int x c,
λCz l i t x=>(by rcases ZE l with⟨i,t,rfl,rfl⟩|⟨x,t,rfl,rfl⟩),
λc4 x=>.str x,
λpL=>drf h n w1=sO a,
λpM=>drf h n w2=sO b,
λAr=>(strKind prog w).hash x,
λmZ=>⟨_,_,rfl⟩,
λn5 M=>.lst (M.map VJ),
λn6 s=>sO zL7,
λhY q=>by simp[q],
λCA f=>absurd (show false=true from f) Ea,
λzl5=>(backToKw cpos (keywordEach [] X.env)).all (λx=>x.1.isSome),
λiA=>R.ρ n,
λPu=>.Call (.Name "enumerate" p) [a] [] pos,
λpN=>(by refine KO ?_ ?_ ?_ ?_),
λxJ=>Zw (mC za9),
λCB=>w.params.followText "set-order",
λCC T E R2 R1 Z P=>λT E=>∃R2,zi5/\Rh X.K R2 Z E/\Rw X.K R2 P T,
λzl6=>(by show oO;·subst z;rw[F]at d;rcases d with d|d<;>cases d),
λxK=>(zg9 a)=false,
λPv H'=>Inv X pins σ H' { s with heap:=h',toks:=t' },
λe'=>Qg 9,
λxL=>⟨way,part,k,true⟩,
λPw=>[.dct tG,jt1],
λpO J=>.lst (wB J),
λcE c=>List c,
λuG=>.seq its.toArray n,
λCD=>(apos.endLine==cpos.line)=true,
λrV=>A.in1.handled=nO,
λuH=>["program","feed"],
λrX=>["lines","spot"],
λAs c=>shE L C m (d+1) (.pu n c) R,
λgR=>λh=>?_,
λAu=>t.plain=true\/es.size<=1,
λo9=>(by exact Qh;exact Qb _),
λxM=>mC (.str "either"),
λn9=>mg "dict"=nO,
λm8=>old j f z,
λAv=>[MO.dic Ta],
λgU=>(n:Int),
λPx J=>(by obtain⟨J,f,B,a⟩:=ol;simp only at q p;subst q p),
λpP=>x≠"__name__",
λpQ=>bootBuiltins x,
λf0 h=>I.list h,
λpR=>(L.length:Int),
λPy=>(Builtin.Range.rangeSize lo d c).toNat,
λzl7=>(by refine F9 kind_sorted YaJ YaK (YaL _) ?_;unfold Builtin.«sorted»),
λxN=>["lines","k","kind"],
λxO=>["program","manner"],
λuI k r=>(by obtain⟨k,r,rfl⟩:=NI.mp hw),
λm9=>Ls.length+2,
λjU=>.ref it,
λPz=>.Assign zv4 e pos,
λzl8=>(if∃x,x<R.N/\x∉A/\A6=a then H a else R.G a)=sO o,
λuJ=>mC (.str "put"),
λl8=>Rw.int _,
λxP k a=>(QA prog w).is s.heap k a,
λzl9=>(by intro xs us r v;rw[E7,Rws.nil_iff]at r;show p8 r v;exact .nil),
λuK=>sc.names.lookup x,
λhG=>I.tok _,
λAw=>Value->zC8,
λuL=>["feed","bounds"],
λPB=>b∈X.ex\/X.s₀.heap.objs.size<=b,
λxQ=>starEach es X.env,
λiX=>.str x,
λrY=>λb o e=>Nl _ e,
λxR=>mC (.str "again"),
λnA M D=>by rw[M];exact D,
λfR q=>λ_ _ q=>q,
λhZ o z=>(by rcases o with z|z),
λi1=>e::es,
λxS=>h[n]?=sO (.dct kvs),
λmB e=>λ_ _ e=>e.elim,
λPC=>(relabel scope X.env).names.lookup x,
λxT=>t.fits es.size=true,
λPD=>(Obj.putSet b t' o).data=.set b c t',
λoA=>.ret .none,
λxU=>b.rws[j]?=sO (sO t),
λCF=>.lst ((mkr p out).map Z5),
λzM7=>⟨zf1 O B,zf1 O B,I.base.free,eE b o e B,I.base.tups,I.base.frzs,I.base.tbls⟩,
λl9=>x="either",
λPF=>(by have:=congrArg List.length H.nm;show iZ),
λpT=>sO (ZT one),
λpU=>sO (.ref 2),
λxV=>(L[d.length]'i:Nat),
λdX a z=>a.trans z,
λlA e=>eval e X.env,
λzm0 u l=>(by rename_i u g;show yP g;cases d;obtain⟨v,rfl,l⟩:=Wf rv),
λAx=>s.heap.IsTuple l items,
λAy=>(by refine Kz ?_ ?_ ?_;exact Qb _),
λfT L m l t=>(by obtain⟨L,m,l⟩:=t),
λpV=>((0:Nat):Int),
λPH g=>.fields #[.int lo t,.int g u,.int 1 v],
λuM=>b≠X.env.locals,
λAz c f x=>Inv X c f H { s with heap:=x },
λrZ=>.type "list",
λuN=>.seq l.toArray k,
λPJ=>Mi.blk X scope cl Nb O R C ex pn,
λs9 i d e=>(by obtain⟨i,d,rfl⟩:=kS e),
λzm1=>Rws.pur_mono b ws xs (by unfold pur at p;exact p) c,
λzm2=>tuples' (Value.type "int" != Sw),
λuO=>["taken","many"],
λxW O=>sO (O.reverse.map cd),
λPK u H=>Nh (Nh ⟨rfl,h h' u H λb o lt e=>?_⟩),
λmD=>p[i]?=sO x,
λCG s a g p=>show s.heap.IsTuple a g.toArray from p,
λxX=>s.heap.objs.size+1,
λmE=>pur w=true,
λPN=>rule "set.scan.the-table-gave-way",
λzm3=>.fields #[.ref ad,rawInt (zw2-1)],
λjA=>["line"],
λjB=>["spot"],
λAA=>HT.sIx xs.length 0 lo,
λpX y=>absurd y (E2 _),
λAB=>s.heap.IsList l items,
λzM8 G p O N=>(by obtain⟨c,G,p⟩:=ET.mro;have O:=ET.made;have N:=ET.sub;refine wpAny_call (IZ (show wpAny _ _ (callAny B9 _) _ _ _ from ?_))),
λpY L=>.lst (L.map Zl),
λfU h'=>h'.get? b,
λxY f s=>f.get? s.heap.objs.size,
λuP m=>h.Ns mainGlobals m,
λzm4 b c=>Room k (A.deeper (envOfC b nH s.heap.objs.size f c)),
λzM9=>decide ((e::es).length+jq7+zU4<30),
λzN0=>(by refine Na (DY n hd (Na (eq (m y p) (Na (DY n hd ?_)))));show wpAny _ _ (if(ep != ep)=true then _ else _) _ E _),
λAC a v=>if a.1=k then(a.1,v)else a,
λPQ=>λp q=>ju1,
λjC P=>(by cases P),
λCH b=>HT.sIx xs.length xs.length b,
λAD h x=>(QA prog w).is h x.1 x.2.1,
λoB=>mFn Wr Ql,
λPR=>.dic (fd (FD++[(m,d+1,sO n)])),
λlB=>List Stmt,
λPU d y=>show s.heap.IsTuple ad d.toArray from y,
λzN1=>(drf h 40 a).bind λx=>(Z8 oE d).map λc=>(.bl (jj7 c),h),
λzN2=>(by have m:=Ko (b:=ZP 3) (body:=Zr) ei e;unfold JL;generalize Ve _ (ZP 3) Zr=I at m;simp[QM]at m ⊢;simp[m,cpO]),
λgV=>NC e,
λzm5=>FnOk X.prog X.w X.K X.mg X.base CX k f fd ps sp,
λsA=>.builtin id,
λjV=>Ext R R',
λsB f=>(by obtain⟨rfl,rfl⟩:=f),
λzm6=>.ListComp elt [⟨tg,iter,[],0⟩] scope pos,
λsC=>by simp;lia,
λgX=>NS _,
λPV X Y t T U=>(by have X:Y=s.drawn:=t.drawn;have T:z=s.os:=t.os;subst U X T),
λsD=>mC (.int 6),
λsE=>mC (.int 4),
λoC=>(by exact Qh;exact QI),
λoD=>(by exact Qe;exact Qe),
λpZ=>mg "list"=nO,
λAE=>LineOk bs ws later l,
λiM=>List Mn,
λjW=>Al p out,
λxZ=>[(e.1,Ls.length)],
λzm7=>[qM,vN,zB9,nO,nO],
λp' H' a=>Inv X pins σ H' a,
λPX=>.BoolOp .And (a::b::rest) pos,
λzN3 C z=>λk=>(C k).trans ⟨λ⟨e,z,q⟩=>⟨e,l.mem_iff.mpr z,q⟩,λ⟨e,z,q⟩=>⟨e,l.mem_iff.mp z,q⟩⟩,
λnB=>Xt e=false,
λzm8=>by unfold pur at p;unfold th;rw[Xe f ws p];rfl,
λzN4=>s.heap.get? p.1=sO p.2/\H p.1=nO/\p.1≠X.env.locals/\p.1∉X.fs/\∀v,p.2.data≠.cell v,
λPY=>@om _ _ HN (atI ws i),
λmF=>.tup xs,
λAF e=>(by exact(show False from e).elim),
λuQ=>.type "dict",
λq5 u c d=>(by obtain⟨u,rfl,c⟩:=Wf d),
λPZ=>IW ⟨Nn (Of z _ _) b,fin⟩,
λzm9 r=>SetL prog w h' s.heap.objs.size (uniq r) BU,
λsF=>(by exact Qb _;exact QI),
λiY=>(0:Int),
λAG=>sIx items.size 0 lo,
λAH=>ws.length<=sizeLine,
λAI=>RawD s.heap d es ep,
λmG=>A.units+1,
λhH=>H b=nO,
λkI=>List Env,
λkJ=>sO .cell,
λP' e=>λa b z=>⟨z.1,Rw.mono e _ _ z.2⟩,
λy0=>by unfold Rw;rfl,
λyA=>List (Str×Addr),
λmH=>Array Nat,
λhJ=>.ref 0,
λzn0 r t=>(by show zD4 r;rw[if_pos hd,t];simp only[Nk,e]),
λR7=>(strKind prog w).is k e.2=true,
λR8=>unsupported "internal:collect",
λuR=>["script","k"],
λzN5=>["program","feed","places","number","part","words","way","one","found","word","place"],
λzn1=>(by refine Q5 (K1 ?_) Qs ?_ ?_ Dv ?_ ?_ ?_ ?_ ?_;exact rfl),
λyB=>["rooms","many"],
λsG e=>lev ls (e.fs+1),
λyC=>M.length<=100000,
λuS=>out.length<=50,
λmI=>mkr p out,
λzn2=>((EE p out).take k).flatMap (clE p out M),
λyD=>.lst (bs.map Q1),
λzN6=>∀whole,isTrue a X.env whole=(do let v <-whole;standAt a.pos;holding [v] (truthy v)),
λzN7=>Na (quiet _ (Na (IA g1 g3 (Nh ⟨true,rfl,_,sb.trans (NV _ a _),?_,rfl⟩) (IB b2)))),
λR9=>(by refine Qcu ?_ ?_ ?_;show vW a),
λq8=>sO wR,
λsH=>EP X a b Q,
λCI E z h=>(by rcases E with z|z<;>rw[z]at h<;>cases h),
λoE=>drf h 40,
λyE p=>(by unfold JC at p;rw[N5]at p),
λyF a z=>a (by rw[z];exact NF),
λAJ m j=>(by have m:l<s.heap.objs.size:=NC j),
λAK=>mC (.str "pair"),
λoF=>Ls++[[]],
λRa=>(Ye ts sY nO).map Q1,
λq9=>Vals xs its,
λqA=>HOk P w H h,
λqB=>Option Addr,
λRb=>∀σ H Q,t' σ H Q->t σ H Q,
λRe=>c%2147483647*48271%2147483647,
λsI=>sq out e.1,
λyG=>.type "tuple",
λRf=>.BoolOp .And (b::rest) pos,
λsJ=>.type "dict",
λd7 w b=>sO (w,b),
λAL=>(.int ws.length,h),
λAM=>Ic K mainGlobals x,
λuT E P=>(by obtain⟨n,rfl,E⟩:=VV P),
λzn3=>∃j,zc1/\j<R1.N/\j∉js/\R1.ρ j=a,
λRg=>(by subst J hw hK;obtain⟨m,N,R,Z⟩:=hg),
λlC=>Eu _ _,
λRi=>seqObj "tuple" d.toArray 0,
λzN8=>(by obtain⟨z,en,g,_⟩:=y;simp only at g;have E:(j.map tO)[t]?=sO (tO (a.fs,z,en)):=Bj g),
λRj=>(bk x).rws.map (rv (bk x)),
λqC=>⟨t,rfl⟩,
λuU=>by simp[QO],
λuV=>x.2.map cdL,
λCJ=>Nh ⟨_,rfl,Nh h⟩,
λyH=>b w σ h=sO σ1,
λzN9 q l m=>(by have:=EW.mp q y l;simp only[N5,DW,bne_iff_ne,beq_iff_eq]at this;rcases this.2 with z|z;·exact absurd m z),
λyI=>DicR K R kvs kx,
λzn4=>(by rw[show k+1+i=k+(i+1) by exact Dh _ _ _];exact this),
λiB=>QF s,
λRk=>(Obj.putSet b t' o).ExactSet,
λzO0 i=>(by rw[IJ en];intro x c;rcases NU.mp c with c|c;·exact(QA prog w).keeps (i x c) f hd nJ),
λRl d=>(by by_cases d:i=j;·subst d;exact DM _),
λyJ=>by exact Nu _ _,
λsK=>(by exact Qe;exact rfl),
λCK=>(by simp only[stp]at e;split at e),
λAN=>.Name "range" p,
λqD h=>.ref h.length,
λuW=>A.units<cLine,
λzO1=>s.heap.push { cls:=Bc,data:=zY8 },
λAO=>mC (.str "end"),
λRp=>(by refine QcY NO Fe FP Gx ?_;exact Qb _),
λnC=>b.trs[t]?,
λCM=>(zg9 d)=false,
λyK g Y=>λb o g e=>Y b o g e,
λsL v b f=>v pos b s f H _ I h,
λoG V=>ns.map V.int,
λzO2=>(cp.map λo=>match o with|none=>nO|dY j=>match σ[j]? with|dY v=>v|none=>nO),
λzn5=>(by obtain⟨i,O⟩:=af x hm;obtain⟨D,t⟩:=aa i x O),
λCN=>λ_ _ _ _ _ _ _ _=>Ke,
λsM U=>h.set n (QO U),
λzn6=>by show(("do":Str)=="do")=true;decide,
λRq=>sIx items.size items.size b,
λAQ=>Option (Bool×MH),
λiZ=>(by simp at this),
λRr=>hS.at λo e=>d.heap S _ B e,
λRs=>λq=>.tup [QF q.1,tJ],
λRt=>λz:Nat=>(MQ z,g z),
λqE=>.str x c,
λuX q' P=>by rw[<-q'];exact P,
λlD a=>K.lookup a,
λCO=>(by obtain⟨i,j,rfl,rfl,q⟩:=h),
λzn7=>(-(2^64)<i/\i<2^64)\/(-(2^64)<j/\j<2^64),
λCP=>s.heap.objs.size+1,
λzn8 b d c=>DO x a P5 wC nH .none kV b pm d c ct,
λAR=>⟨rfl,rfl,rfl⟩,
λiN=>ZP 0,
λzn9=>show n+(C4 r)=n+1+r.length by lia,
λqF=>p.map Xy,
λzo0=>⟨i.toNat,by exact(Fp ‹_›).symm⟩,
λzO3 z=>(by rintro⟨e,z,p⟩;rcases NU.mp (pm.mem_iff.mp z)with q|q;·exact .inl ⟨e,q,p⟩),
λqG=>ZQ [0,1],
λsN=>mFn V4 Ql,
λqI=>met++[s],
λnE j=>sO (.str j),
λzO4=>d.tup t (Rws.cons zy1 (Rws.cons (Rw.mono e _ _ g2) Rws.nil)),
λmJ=>RelV x v,
λCQ=>kvs.length<=sizeLine,
λCS q d=>by rw[QZ (V3 q d)];exact q,
λmK=>sO .free,
λzo1=>(by show iO a b I q h;exact⟨a,b,I.unwish,q⟩),
λCT=>Array (Option Value),
λRu=>Builtin.Tuple.tupleExact _,
λqJ=>Option Nat,
λqK=>Ext.refl _,
λqL=>body σ1 h,
λyL=>⟨_,hS,rfl⟩,
λuY=>I.ok.hd hc,
λAS=>mC (.str "or"),
λyM=>mg "sorted"=nO,
λzo2=>Cal P w K mg base 1 "first_spot" [] Jt,
λCU=>Qr (Qbe ?_) Qk ?_ ?_,
λzo3=>if_pos ⟨by simp[frR],by simp[frR]⟩,
λsP=>s.head=true,
λkK=>fd FD,
λqM=>sO (lsN L),
λRv=>.Compare a [op] [b] pos,
λuZ V4 b=>(by unfold V4 at b;split at b),
λAT c=>(by obtain⟨v,rfl,c⟩:=Wf rw),
λzo4=>(by wp_walk using Fx a,DP b;exact⟨_,rfl,h⟩),
λkL=>List MO,
λAU=>sO (!ws.isEmpty),
λyN b d=>λx b=>d x (NA _ b),
λoH=>U8 l=true,
λzo5=>res (W4 ns (a p.1) h.length) p.2 3,
λoI=>Wo o=true,
λzo6=>res (W4 ns [] h.length) (os'++g) 3,
λAV=>box frN m args h,
λzO5=>Moved.trans W.gtrans ((d.mono sub).then_heap (Ff _) (eE b o z e)) j,
λv3 j=>(by rcases j with rfl|rfl),
λj0=>Qg 8,
λv5=>ws.length<=5,
λoJ=>hL S G Ls,
λCV q=>(L.idxOf q.1,L.idxOf q.2),
λAW e a b=>(by by_cases e:a=b;·subst e;simp),
λzO6=>(by simp only[sliceBounds,HT.sIx,Ya0,show mM>0 by decide,if_true];by_cases h:i<0),
λlE b c e=>(by rename_i b c;cases e),
λRx=>JX items nO b body r σ h,
λRy=>fin=Fin.done (Flow.ret v),
λRz=>⟨way,part,en+1,false⟩,
λg9 i=>K g p i,
λj1=>Gl X x,
λnF=>.lst a,
λyO e=>λ_ e=>tU e,
λRA=>.Attribute o name apos,
λzO7=>(by have B:S∉wr:=λz=>f (W.sub _ z);have sub:∀b∈wr,b∈S::wr:=λb z=>NA _ z;intro k),
λRB=>entryOfKey zb3,
λCW=>d.getD i Value.none,
λzo7=>["program","manner","word","places"],
λCY=>Qr (XJ ?_) Qk ?_ ?_,
λRC=>tf (tf (tf f2 26) 6) 8,
λRD=>tf (tf f 10) bs.length,
λsQ k=>rem x i (k+1),
λRE=>sO (.ref (C4 g)),
λlF=>.bl b,
λAX=>binaryOp .Add,
λAY=>QdT X.K R h d,
λAZ=>by kernel_rfl,
λzO8 J B Y=>show ObjOk X.prog X.w _ J _ zT from⟨zJ5 B,b.toList,c',Y,by rw[eL]⟩,
λzO9=>(by obtain⟨v,hv,r⟩:=rv.get hx;have M:v=u:=by have:=hu;rw[Dx,hv]at this;exact N2 this),
λqN f=>(by injection f with f),
λsR=>.int x c,
λdY v=>some v,
λA' b=>if b then 1 else 0,
λjD=>sO v,
λnG=>s.toks+1,
λRF=>behindInMarks op b=false,
λzo8=>envOfC b a s.heap.objs.size f cd,
λRG=>by show Pb;omega,
λzP0=>f.new (mo:=.lst _) (o:=jG a) n λB i=>⟨a,rfl,Mp i j⟩,
λRI=>by rw[d];exact NB (EV m),
λjE=>Qg 7,
λCZ=>plW (sq out e.2),
λv7=>model P w,
λB0=>X.mg "range"=nO,
λqO Y v d l=>λR1 Y v d l rv=>?_,
λgF q=>NG.mp q,
λoK k=>K g p (k-1),
λRJ=>(by refine zH9;exact Qb _),
λlG=>List En,
λB2=>(g s m).trans l,
λlH=>.inl ?_,
λv9=>sO (Q1 t),
λj2 V=>Option V,
λyP f=>(by simp only at f;subst f),
λzo9=>sO { cls:=.none,data:=.fields ps },
λC'=>X.base.get? b=sO o,
λzP1=>(by rw[d]at g;injection g with j _;have:c=b:=by simpa using congrArg Array.toList j),
λsS=>pure false,
λyQ o i=>.Subscript o i pos,
λDb=>x.length<=sizeLine,
λsT=>λ_ _=>rfl,
λsU e a=>Rw.mono e _ _ a,
λzP2=>FnOk X.prog X.w X.K X.mg X.base CX k f fd ps (spM X.K ps.length g),
λsV=>Option Src,
λzp0=>a.length+(rest.length+1)<=sizeLine,
λDo=>Nat->MSt->MH->Prop,
λD'=>Z8 Ch ns=sO os,
λzP3=>∀(i:Nat) (v:Value),t9=sO v->∃x c,r[i]?=sO x/\v=.str x c,
λRK N g=>.Call (.Name "set" N) [e] [] g,
λzP4 i y u f=>(by rw[if_pos (by rfl)];refine Na (De (Na (FB (s:={ s with heap:=i,toks:=y }) (zH7 u f) ?_)))),
λEQ=>λx=>(x.1,x.2.1,k),
λE'=>Dfs p met st n out,
λqP=>sO .local,
λvA=>SqT K H a b,
λvB=>SqL K H a b,
λqQ=>PM X a ma,
λqR=>i<xs.size,
λzP5=>beq_eq_false_iff_ne.mpr λz=>absurd I.big (by rw[<-z];exact EA _),
λvC=>[Zx p,QF s],
λRM=>⟨r,q.1,q.2+1,false⟩,
λzP6 O=>(by rw[NR]at O;rcases Ly (LV O)with z|z;·exact q i t' z A),
λzP7=>(by show tL g;rw[et];unfold Zv;generalize Ve _ (ZQ [8,9]) (JS (Z1 d))=fo at H),
λoM=>m σ h,
λvD g n=>λb g=>(n b g).1,
λzp1=>(by obtain⟨c,a,f⟩:=b.obj n _ (d (.l n) rfl)),
λRN g=>Cal P w K mg base k x ps g,
λRO=>by simp at h;exact h,
λB3=>items.size-0,
λRP=>by rw[FL];kernel_rfl,
λRQ=>λb p=>Qbd b p.1 p.2,
λFa=>(by refine WW ?_;refine Xg ?_),
λqT=>(by exact sc_law.nd),
λqU=>x="again",
λFr e=>(by obtain⟨e,part,k,head⟩:=s),
λzp2=>[⟨way++[(part,k)],j,0,false⟩],
λGo=>(nx p s).map QF,
λoN=>tf f 6,
λzp3 f a e=>(by by_cases f:b=a;·subst f;rw[VX]at e;cases e;exact new),
λRR I S=>by rw[I.len];exact(Nd.mp S).1,
λzP8=>(by refine Na (W.done s _ _ st λa d=>Nh (t a (d.mono sub) ?_));rw[FA (Nt F)]at hS),
λzp4=>w.params.followText "set-order",
λzP9 Y=>(by have Y:=dp_pu.mp hd;have I:=λ(neg:Bool) (h:MH)=>QqS (neg:=neg) (L:=L) (n:=n) (h:=h)),
λeH k=>.inl k,
λoO=>(by by_cases z:j=k),
λyR=>Option Value,
λiO t u v e x=>(by obtain⟨t,u,v,e⟩:=x),
λH9=>Vis X.env.scope x,
λB4=>Array GenState,
λsW z=>False.elim z,
λRS=>OpR X (compareOp op) r,
λRT=>((sIx n 0 lo:Nat):Int),
λB5 m F o l O=>(by obtain⟨ad,m,rfl,F,o⟩:=l.tupAt O),
λoP=>L.map Z5,
λRU=>items.length<=sizeLine,
λHa=>es.size<=sizeLine,
λRV=>.type "tuple_iterator",
λB6=>(by refine QN YD Qk ?_ ?_),
λB7=>(by refine Qr Xw Qk ?_ ?_),
λoQ=>e.kd=.oo,
λyS=>[("or":Str)],
λzp5=>[tZ x,.int x.2.1,.int x.2.2],
λjX=>Rc p s,
λmL=>List Te,
λyT=>.str "clash",
λhP z=>NZ.mp z,
λqV a=>sO (.own a),
λvE q=>by rw[q];simp,
λmM=>(1:Int),
λzQ0=>if x.length+y.length<=sizeLine then sO (.str (x++y),h)else nO,
λRW k=>(intKind prog w).is k e.2,
λqW l=>Value.ref l,
λRX=>seqObj "list" #[] 0,
λRY=>(by have:=UG (ts:=ts) (m:=m);omega),
λRZ g O=>λb o g e=>(O.2 b g).trans e,
λzp6=>0<=j/\j<=1000000/\i.natAbs<2^64,
λvF=>.inr rfl,
λvG=>l.take i,
λsX=>.tup ws,
λzp7 l f=>(by rw[NQ,Og];unfold Z8;have l:=f 0 x rfl;rw[YaF]at l),
λzQ1 I=>(by obtain⟨hj,pj,_⟩:=EN.mp hr;have f:x∈ks:=(i x).mpr ⟨I.toList[j],E4 hj,pj⟩),
λS0 B I h=>λo e=>by rw[B.2 I (EI h)];exact e,
λHb=>p.getD (k-1) 0,
λzp8=>sO (seqObj "list" us.toArray c),
λHc=>(by exact sc__law_program.nd),
λvH=>.bl true,
λsY=>sO (-1),
λzp9=>(mdS p (sq out q.toNat)).isSome,
λHd=>(by rw[Ec]at this;exact this),
λkM=>lR R,
λzQ2=>∀b ps,H b=sO (.tbl ps)->∃more,H' b=sO (.tbl (ps++more)),
λeE b o e a=>λb o e a=>?_,
λB8 i j=>.bl (decide (i<=j)),
λsZ=>.dK kvs,
λnH=>Qu st,
λzQ3 u=>(by ·rw[K3 u];rw[show(d.length==c.length)=false by simp;omega,Ip]at this;exact this),
λS1=>N={ s with heap:=h' },
λB9=>.type "set",
λnJ=>NV ..,
λS2=>.type "list_iterator",
λBa=>Ls.length+2,
λkN=>ls[j]?,
λvI=>Heap->Prop,
λkO=>X.mg x,
λt5=>PE X a ta,
λyU a=>SqT X.K H a ys,
λmN w=>I.ok.hd w,
λzq0=>.builtin "object.__class__",
λzq1=>.Call (.Name x p) [] [] pos,
λqX=>D5 _ _,
λyV=>i _ _ _ q,
λvJ=>KL es=true,
λt9=>items[i]?,
λHe=>cl.lookup x=sO c,
λzq2 q D m=>EA _ (Ni (q▸I2.lt:D<f.heap.objs.size) m),
λS3=>(by unfold eqW;exact Kn n ws as m),
λvK=>["script"],
λoR p=>sO (p w,h),
λzq3=>a.length+rest.length<=sizeLine,
λvL=>JC ws=true,
λHf=>by unfold Q0;rfl,
λzQ4=>ks.Nodup->(∀k∈ks,k∈a)->a.length=ks.length->zZ a,
λBb=>⟨_,rfl,?_⟩,
λyW=>mFn Zs Ql,
λHg=>mg "reversed"=nO,
λjY k=>lev ls k,
λtB=>sO (Vh p),
λyX=>sO (QF t),
λkP=>.int 0,
λtD=>ixS out t,
λzQ5=>rT a b (sO Mk) x5 (sO Mj) x7 x8 x9 x10,
λtE=>(ks FD,X),
λvM=>(ks FD,[]),
λvN=>sO (lsQ C),
λBc=>.type "range",
λhQ a σ b c=>Inv X a σ b c,
λnK=>.frz ws,
λvO R b=>After K R w b Q,
λzQ6 h g=>(by intro h;have g:k∉xs.map (·.1):=not_mem_keys_of_get h;have en:=atKey_none_of_get h),
λzq4=>ObjOk X.prog X.w _ _ _ zT ,
λlI=>(by refine Jc ?_),
λnL=>[nO,nO],
λzQ7=>(by rcases m.kd with q|q;·rcases z.1 with z|z<;>rw[q]at z<;>cases z),
λBe=>∃x r,l=x::r,
λzq5 f j=>(by rcases ZE f with⟨j,u,rfl,e⟩|⟨y,u,rfl,e⟩),
λyY=>Value->Prop,
λtF q h=>(by obtain⟨rfl,q⟩:=h),
λHh=>JG X.prog X.w,
λlJ=>x::r,
λS4=>Str->Option NameKind,
λzQ8 c=>Ej EH c.typeIs entry_tuple_getitem ?_ (args_tuple_getitem _ _),
λS5=>(by split;·rw[Ny];exact Nu _ _),
λyZ=>X.A.units+1,
λS6 a p=>.nx (a.set i (sO p.1)) p.2,
λqY=>.int 0 0,
λzq6 b=>ElemsOf (strKind prog w) b.toList,
λzq7 b=>ElemsOf (intKind prog w) b.toList,
λS7=>⟨_,g,rfl,nl,rfl⟩,
λzq8 p=>(ps.map zy0).toArray,
λzQ9=>(by simp at n;rcases n with h|h<;>(rw[h];first|exact Nv _|exact Nu _ _)),
λS8=>ps.length=items.size,
λHi=>(by exact sc__law_manner.nd),
λy'=>mg "min"=nO,
λz5=>QjB l=false,
λz7=>sO (.ref 2),
λzq9=>(by have f:=key 0 a rfl;have g:=key 1 b rfl),
λHj=>nm out.zipIdx,
λqZ=>[.dct D],
λzR0 f2 E=>⟨(f2 b E).2.2.2.1,(f2 b E).2.1,(f2 b E).2.2.2.2.1,(f2 b E).2.2.2.2.2⟩,
λzR1=>(by show r4 g d;have b:JC (c.map (·.2))=true:=p;clear p d;revert b),
λzR2 S=>(by unfold setAddHashed setAddHashedIn;refine N0 (Na (DD S hd hf ?_));dsimp only),
λzR3=>(λu hu v hv e=>f (by rw[NG.mp hv]at e;rw[<-e];exact hu)),
λS9=>.builtin "sorted",
λSa=>(by unfold ZR at c;rw[Ny,Fy]at c),
λzR4=>wpAny _ A.in1 (Builtin.Dict.addKeywords D []>>=_) _ _ _,
λSc=>(sc E S n).map Z5,
λHk=>A.units+n<cLine,
λlK=>ls[k]?,
λlL=>H p=nO,
λoT=>g i j,
λBg i j=>.bl (decide (i<j)),
λHl c=>c.heap.objs.size+1,
λlM=>.str _,
λz8 h=>(by rw[Rws.cons_iff]at h),
λzr0=>compEnvC scope cl C X.env,
λSd i g=>EqAt A.in1 s i g Mv,
λBh=>λ_ _=>rfl,
λBi=>sO w::caps,
λzR5=>[.tup (s.way.map Qbo),.int s.part,.int s.k,.bl s.head],
λHm=>λp=>.ref p.2.1,
λzR6=>(by intro xs us r v;rw[ND]at r;unfold Rws at r;obtain⟨y,f,rfl,b,d⟩:=r),
λSe H2 f A=>λR2 H2 v x f A=>⟨R2,x,f,A⟩,
λHn=>List (Tr×W×W),
λzr1=>.type "list_reverseiterator",
λHo=>Qr Qa8 Qk ?_ ?_,
λzr2=>pS bs ws later e op u k c,
λHq R=>by rw[Q6,Nq,R];rfl,
λHr=>(nx p s).length,
λvP z=>.inl (z:Int),
λzR7=>.bl (if neg then !(lk R x).isSome else(lk R x).isSome),
λnM a=>upd H a o,
λvQ=>.type T,
λSf=>ys.length<=sizeLine,
λSg=>kvs.length<sizeLine,
λiP R a c=>Rst K R a c,
λSh=>X.mg "enumerate"=nO,
λSj=>show i=k+1-1 by lia,
λBj g=>by rw[Nq,g];rfl,
λzR8=>QH (g:=[]) (by simp[hw,c,a,f,d]) ?_ (by simp[hw,c,d]),
λzA=>.int i t,
λSk D t a=>(by obtain⟨D,t⟩:=I.base.there b o e a),
λBl=>Gl X "range",
λvR=>.lst ys,
λzB q=>by rw[q];simp,
λzR9 c=>(λa u e z=>by have:=Y';rw[z,c]at this;cases this),
λzr3 h=>λ_ _ e=>V7 e λ_ _ d=>h _ _ _ _ d,
λvS h2=>sO (.rt v h2),
λSn=>∀b∈fp,t b=nO,
λzr4 r u i=>(by rw[Rws.cons_iff]at rv;obtain⟨v,r,rfl,u,i⟩:=rv),
λHs=>(by unfold th at e;cases e),
λoU=>At xs i,
λSo=>(by refine Es Ft ?_;rw[Et Dn _]),
λoV=>.dct [],
λzS0=>(!ltCps y.cps.toList x.cps.toList&&risingS y r)=true,
λzS1=>λb o e=>u b o (by simpa using(G b o e).1) (rE Z),
λBm=>(by exact Qb _;exact Qz),
λzC=>(by exact JD;exact Qz),
λBn=>QlH p l=sO j,
λtG=>Kp met,
λSq=>.lst (ms.map Z5),
λzS2=>o.data=.seq b n/\b.size<=sizeLine/\Vals xs b.toList,
λvT=>PE X e te,
λSr i j=>i.cps.toList<j.cps.toList,
λzS3=>c.natAbs<1073741824/\Builtin.Range.small i j c=true,
λzS4=>(λb _ _ q=>by cases b<;>first|exact Nh q|exact De q),
λzS5 F=>(by have F:d.size=(ks++[x]).length:=by rw[<-NP,pm.length_eq,NK,NP,NK,hn];rfl),
λzS6 z=>(by rintro(⟨e,z,p⟩|rfl);·exact⟨e,pm.mem_iff.mpr (Em _ z),p⟩),
λzS7 c=>(by refine Na (L0 hN ?_);show wpAny _ _ (pure c.toArray.toList) Q E _;rw[F4]),
λzS8 e f d=>(by rw[ES]at b;refine(Yah e).trans (List.Perm.cons k (f (a.erase k) b.2 (λx d=>?_) ?_))),
λvU=>e.bind ?_,
λzS9=>ItemsOf (λi v=>its[its.size-1-i]?=sO v) a its.size,
λvV=>IsP h z v,
λvW l=>(by exact l;exact Qb _),
λvX=>["lines"],
λvY=>rem x i k,
λSs=>o.data=.dict es ep,
λHt o=>ObjOk P w H h a o,
λHu=>X.env.kindOf x,
λzr5=>X.env.scope.names.lookup x,
λzD=>Room k X.A,
λSu f e d=>s.heap.IsSliceOf f e d .none,
λvZ n C e=>(by rename_i n C;split at e),
λSv=>its.size<=sizeLine,
λzr6=>Rws.th_ok c l ws b us h1 d,
λtJ=>.int q.2,
λzT0=>(by obtain⟨o,_,_,_,c,b,_⟩:=x;exact⟨o,c,b.1⟩),
λzT1=>(by rintro r N ⟨v,rfl,h',q1,q2,rfl⟩;exact Nh (h v h' q1 q2)),
λzT2 G=>(by have D:r.length=items.size:=by have:=Lp G;rw[NP]at this;exact this.symm),
λSw=>Value.type "tuple",
λHv=>sortedS a=true,
λzT3=>(by unfold ZR at m;rw[Nq,DA]at m;obtain⟨⟨D,j⟩,A,rfl⟩:=kS m),
λzr7=>(by refine Yc 20000000 ?_ ?_ ?_;exact NY),
λSx=>λx=>(x.1,k,x.2.2),
λHw=>PlainL bs ws l,
λHx j=>Vl p j w part k v,
λlN c=>c.map Q1,
λzr8=>RH j f i r h'/\zd9,
λBo=>ps.zip us,
λSy=>λ_ _ q=>Nl _ q,
λSz=>.Dict [] [] pos,
λnN q c=>q.obj n _ c,
λSA=>fin o n j i C D,
λSB=>by simp[c,EI C],
λr0=>Qg 10,
λzT4=>[jv4,jv3],
λr1=>prD D,
λoX a=>h'.get? a,
λzT5=>by rw[I.ok.glob];exact I.mod.glob.keeps I.bk,
λBp a=>SqL X.K H a ys,
λBq d=>.seq d.toArray,
λzT6=>(by ·obtain⟨_,_,_,_,o,_,_,e,f,_⟩:=r9 p d;exact⟨o,e,f⟩),
λzT7 e=>λa b z=>⟨Rw.mono e _ _ z.1,z.2.1,Rw.mono e _ _ z.2.2⟩,
λHy=>B.sub x c e,
λzr9=>List.range' k a.length,
λHz=>xs.map .str,
λzs0=>w.params.setOrder S ep,
λzT8=>by first|rfl|(simp only[firstArgMember];rfl),
λzs1=>(s.heap.push _).objs.size,
λzs2=>checkCount "sorted" 1 1 _,
λzs3 c=>(by intro p c;simp only[NM,Ek,or_false]at c),
λHA=>(by exact sc__law_part.nd),
λHB=>by simp[ch],
λtK t b=>(by intro t b;simp at b),
λHC=>sO (.str r),
λr4 u r=>(by refine⟨u,r,?_⟩),
λSC=>List (Str×Value),
λSD=>a.length<sizeLine,
λSE=>L.length<sizeLine,
λSF=>(K w.params).In h,
λSG=>List (Key×Value),
λSH=>sO (.int (i+j),h),
λzT9=>l.foldl (λu x=>if x∈u then u else u++[x]) [],
λSI=>Value.type "dict",
λzU0=>us.Pairwise λx y=>zV s.heap x<=zV s.heap y,
λBr=>mg "set"=nO,
λSJ=>b.cl t _ c (nm t),
λBs=>shL M out w,
λSK=>(by simp only[LC,Er,if_false]),
λHD=>List (Str×V),
λzs4=>RelO (fs.lookup f) (b f),
λHE=>sO (.frz o u),
λzs5=>I.base.free b o e n a,
λSL q=>N4 _ (N4 _ (Kq q e)),
λSN=>binaryOp .Mult,
λzs6=>.builtin "isinstance",
λSO=>(p,w)::P.zip a,
λnP=>.int _,
λSQ=>.builtin "len",
λBt κ=>DecidableEq κ,
λzE=>I.tok _,
λw6=>Nl _ e,
λzF R=>Ends K R D r,
λSR=>sO (.int (i*j),h),
λzU1=>λp q=>Rw K R p zJ8/\nrm p=sO q.1,
λHF=>t.plain=false,
λzs7=>⟨[.type "set",a],[]⟩,
λHG=>(by rw[F8,DX];kernel_rfl),
λzs8=>SetTable.below t.place c,
λHH=>Sb.Up t.place,
λzs9=>Q nO { s with heap:=h' },
λw9=>.int 0,
λHI=>sO (JY later),
λzG=>tf f 14,
λzU2=>.lst (b.st.reverse.map λ(t:Nat)=>W.ref (t+2)),
λzt0=>p.map λx=>zg6,
λSS l=>sO (.lst zf0),
λST D=>by rw[(Vz D).2];simp,
λoY f2=>H++[QO f2],
λzU3=>if(ns.length:Int)<4 then(ns.length:Int)else 4,
λlO t e c=>(by obtain⟨t,e⟩:=c),
λzU4=>if([]:List Keyword).isEmpty then 0 else 1,
λzU5=>(by rcases h with(h|⟨o,h⟩)|h;·exact .inl (.inl (e _ _ h))),
λzU6=>.ListComp B [⟨target,iter,t,0⟩] o pos,
λzU7=>λ_ _ _ _ _ st h=>let⟨_,g⟩:=st.2.1;ID g h,
λzU8=>(by cases d;have u:=I.q;exact⟨a,b,h,Yi (by simp[u,pth]),I.d⟩),
λzt1 e=>(by exact(beq_eq_false_iff_ne.mpr e).symm),
λfV o c=>RelV o c,
λBu k v=>IsT s.heap n k v,
λtL a=>(by refine⟨a,?_⟩),
λzt2=>X.s₀.heap.get? b=sO o,
λkQ i=>(by simpa using i),
λwA=>.inl rfl,
λBv z d=>by rw[z];exact d,
λSU=>.int (i^j.toNat),
λzt3=>if j>i then j else i,
λzt4=>if j<i then j else i,
λSX=>Binds K fd ps [],
λHJ=>.bool true,
λHK=>K w.params,
λzH=>.dict #[],
λzI=>Option MF,
λBw=>.dic kvs,
λSY=>by rw[d.isEmpty],
λSZ=>PMI X tg iter mi,
λoZ=>N6 _,
λHL=>NG.mpr rfl,
λS'=>by unfold UT;rfl,
λzU9=>(by rw[Nr]at this;rw[show as.length=f.length by lia];exact this),
λzt5=>.cons (a:=p) (b:=q) h t,
λT0=>P (n+j+1) σ2 h2,
λzt6=>List.range ns.length,
λHM=>p.getD k 0,
λHN=>λw=>(w,h),
λzt7=>mi σ h=sO (items,nO,h),
λzJ=>λ_ _=>nO,
λT1=>b.size<scanBound,
λT2=>b.size=ks.length,
λzt8=>Str.ofString "__next__",
λzV0=>(by simp only[newExc,newTuple];refine Na (Eo ?_ zF0)),
λzt9=>DctE prog w s.heap d xs,
λzV1 n g=>(λx c y n e=>g (by rw[ND,E7,NG]at n;rw[e,n]at c;exact c)),
λT3=>Gl X "enumerate",
λzV2 H=>(by intro k;have W:=Yad (prog:=prog) (w:=w) (A:=A.in1) hh I l H items),
λzu0=>mC (.int 2147483647),
λHP=>(by exact Qb _;exact rfl),
λzV3 l=>(by refine Q5 (YL ?_ ?_) Qs ?_ ?_ Dv ?_ ?_ ?_ ?_ ?_;exact rfl;exact l),
λzV4=>(x++y).cps.toList=x.cps.toList++y.cps.toList,
λzK=>sO (JY a),
λzV5 s J I H G=>(by rcases Vj (x:=x)with⟨rfl,s⟩|⟨rfl,s⟩|⟨rfl,s⟩|⟨rfl,s⟩|⟨⟨J,I,H,G⟩,s⟩),
λT4=>[Zx p,Vh p,QF s],
λzu1=>sO (.lst (L.map QF),[]),
λtM=>trS s,
λp0=>ZT q,
λBx=>sc E S n,
λtN=>sO lw,
λT5=>o∈ks FD/\o∉S,
λzV6=>Q (hN w n k) { s with toks:=s.toks+dN n k },
λzV7=>y.length<=sizeLine/\k=((y.length:Int) != 0),
λr6 j=>st.mono j,
λT6=>compareOp .In,
λT7=>(Qbn j c).isSome,
λzV8=>by show Pa;unfold eqW;exact WO ws p,
λzV9=>by show Pa;unfold pur;exact Jq ws p,
λzW0 y h2=>(by unfold Builtin.Dict.pairItems;refine Na (Dt (T:="tuple") ⟨o,y,h2⟩ ?_)),
λT8=>ltr (tk f 26),
λT9 a=>by simp only[Qah,a],
λTa=>fd [(m,0,nO)],
λzW1=>(by rw[D];unfold QX;generalize Ve _ A0 (ZN (Zf d))=fo at H),
λBy=>b[i]?=sO x,
λTb d=>(by obtain⟨ad,g,rfl,p,_⟩:=d),
λBz=>b.length=n,
λBA=>l.length=n,
λHQ=>j<1073741824,
λHR u=>λb u e=>Nl _ e,
λzu2=>sIx items.size 0 lo,
λHS c=>.str ⟨#[c]⟩,
λtP=>W->Bool,
λHU=>DGet H a y o,
λzu3=>.Subscript o i pos',
λp4=>R.ρ n,
λtQ=>nrm p.1,
λHV W=>Option (List W),
λBB=>UI e=false,
λzu4=>X.A.in1.units+40<cLine,
λzu5=>HT.sIx items.size 0 lo,
λBC=>sO (as,ns),
λHW=>λa o ha=>?_,
λtR=>sO o::r,
λzW2=>∀i o,a[i]?=sO o->(os'++g)[k+i]?=sO o,
λBD=>Lz b t' hd,
λzu6=>(by simp only[NM,Ek,or_false,not_or]),
λzu7=>Str.ofString "keys",
λzW3=>(by unfold Builtin.«dict.__init__» Builtin.Dict.selfAndRest),
λzu8 n g=>(by have hS:=Qgi n rv;have g:=Si.ints_len hS),
λHX=>lev ls (k+1),
λzu9=>JQ h.len (old _ f z) o,
λHY=>bs.length<=5,
λzW4=>(by simp only[stp,kst,ND];by_cases h:B'<;>simp[h]),
λzv0=>[QO I,.lst [Xy (e,u)]],
λzv1=>⟨way,part,m,false⟩,
λHZ=>.ref (g.2+2),
λTc H'=>HOk X.prog X.w H' h',
λTd=>PI X tg iter wi,
λzW5=>(envOfC j d s.heap.objs.size f cd).kindOf,
λTf=>Array DictEntry,
λId=>Or.inr rfl,
λzW6=>λ_ _ _ q=>Qad (Qdr q) λ_ _ c=>j _ _ _ c,
λTg=>drf h 40 a=sO d,
λTh=>sO (.ct σ2 h2),
λTi b h'=>Q b { s with heap:=h' },
λTj=>∃u x,l=u++[x],
λTk=>DctR K R kvs kx,
λzW7=>.Call (.Name "reversed" p) [a] [] pos,
λzW8=>h++[.lst ((St.srt (St.uniq b)).map .str)],
λzW9=>(by simp at d ⊢;rcases d with rfl|d;·exact N6 _),
λzX0=>(λw=>match w with|.tup (a::_)=>a|w=>w),
λTl=>[.i q.1,.i q.2],
λTm=>ts.length<=1000,
λkR e l=>(by cases e;cases l),
λIx=>.Name x j,
λzv2=>(by try with_reducible refine N0 ?_),
λzX1 o i b=>∀o i,subscripted b false o i=operate [o,i] (getItem o i),
λzv3 e=>by rw[e];exact True.intro,
λzv4=>[.Subscript o i pos'],
λmO R' w=>Rw K R' w v,
λIN=>(by unfold Rws at h ⊢),
λtT=>(by exact Rws.nil),
λkS r=>Nf.mp r,
λzv5 I=>(by rcases NM.mp (I.stkSub _ z)with q|q),
λTn c=>[c.heap.objs.size],
λIO=>wIn false,
λzv6=>-18446744073709551616,
λwB l=>l.map .str,
λTo=>by simp[dep],
λzX2=>(by obtain⟨_,_,_,_,b,_⟩:=x;exact NC b),
λzX3=>(by rw[l2]at g4;have sb:=NV s.heap a (Obj.putSet d g);split),
λzL=>JP rfl,
λzX4=>Qn Qjw (mC (.int 10)) (mC (.int 18)),
λzv7=>(by exact rfl;refine Yg ?_ ?_ ?_ ?_),
λJ'=>(by exact sc_reached.nd),
λKK=>(by exact sc_clashes.nd),
λzX5=>(by refine Qw (Qbg ?_) Qs ?_ ?_ O8 ?_ ?_ ?_ ?_ ?_;exact rfl),
λzX6=>(by cases h<;>(show(_==_)=false)<;>decide),
λzM=>tf q 3,
λzN=>Kp out,
λKT=>sO (Xy x),
λLE=>hL S G Ls,
λzX7=>Ug [] ((EE p out).flatMap (clE p out M)),
λzX8=>Ko (b:=ZQ [8,9]) (body:=JS (Z1 d)) ei el,
λfF j y=>⟨j,y⟩,
λTp h e=>h.DictOf (JG P w) a e,
λzX9=>y.size<=sizeLine/\k=((y.size:Int) != 0),
λr9 p n=>I.hok p _ n,
λzY0=>DO name d h body a U kV D pm X g ct,
λTq B E=>by rw[Nr,<-B];exact E,
λwC=>Xr st,
λzY1=>Cal X.prog X.w X.K X.mg X.base k x ps g,
λBE=>YZ true,
λzv8=>(if _ then _ else _)=_,
λTs O=>(by obtain⟨ol,j,q,nl,p⟩:=O),
λzY2=>g={ s with heap:=h',drawn:=d,toks:=tk },
λzY3=>s.heap.IsRevIter r d ((its.size:Int)-1),
λzY4=>.Call (.Attribute e "values" M) [] [] j,
λzY5=>(by refine Q5 (W1 ?_) Qs ?_ ?_ DF ?_ ?_ ?_ ?_ ?_;exact rfl),
λzY6=>(by rename_i ha;cases e;obtain⟨u,st,U⟩:=b;have M:=h.op),
λzv9=>(bks ls ls.length).st,
λL'=>ts.map Q1,
λtU q=>(nomatch q),
λzO=>.int i t,
λp5 e=>KV kvs e,
λzY7=>p.1=q.1/\p.2.1=q.2.1/\RelV p.2.2 q.2.2,
λzw0 r i=>(by subst z;rw[r]at i;exact i),
λM0 s=>AllBare s.gens,
λBF I=>I.cell x c e,
λBG H=>SqT K H a xs,
λTt=>SqL X.K H a xs,
λTu=>SqT X.K H a xs,
λTv=>QdW X pins H b,
λBH a=>eval a X.env,
λM1=>ps[j]?=sO p,
λzw1=>items.size<=sizeLine,
λzw2=>(d.toArray.size:Int),
λTw=>Slot T name id,
λBJ c=>IntsAre c ns,
λzw3=>d.params.defaults=[],
λkT R1=>Ext R R1,
λTx=>SqL K R.F a xs,
λp6 i=>SqL.of i,
λzP=>PM X e m,
λTy=>items[j]?=sO v,
λzw4 l=>Heap.SameBut it s.heap l,
λM4 e=>Rws X.K R e xs,
λM5 d=>Rws X.K R d ys,
λp7 t=>(Ze t).1,
λM6 x y=>sO (.bl (x==y),h),
λzY8=>.fields #[.int lo t,.int d u,.int c v],
λzw5=>below.go xs j f lo c,
λTz=>pure (sO true),
λzQ=>Nat->Int,
λM7=>(EO _).symm,
λzw6=>.type "set_iterator",
λM8 h=>RawD h d es ep,
λzY9=>W.go L kk pos i T _ _ _ f λai G D=>?_,
λrA=>Ok n p,
λrB=>.ret _,
λM9=>Ex s.heap g,
λTB=>⟨[],[],[]⟩,
λzR=>tk f2 26,
λMa=>0<bs.length,
λMb=>0<ws.length,
λzw7=>sO (.lst (L.map Zl)),
λzw8=>(O++[x]).map .str,
λMc=>L.length<=2,
λzS=>dpE t<=d,
λzZ0=>p.rec .nil λr _ h=>.cons (f _ _ r) h,
λzZ1=>Na (wpAny_mkInt (Nh ⟨_,_,rfl,h⟩)),
λzT=>.lst _,
λBK=>PE X b tb,
λwD=>-(2^62),
λTC=>tOp r ta tb,
λBL=>(by dsimp only;split),
λwE p=>(by by_cases e:p.1=k),
λBM=>PM X b mb,
λzZ2 z f=>λR1 z v f d rv=>k R1 z _ f d ((s.mono f).set rv),
λMd=>sO (true,h),
λBN=>PM X o mo,
λzZ3=>(Builtin.Range.rangeSize i j c).toNat,
λBO=>[.dic []],
λBP=>X5 0 args,
λzZ4=>WalksS prog w A.in1 I fp wr G n P St',
λwF j=>(by apply E8;intro j),
λBQ=>Qdj kx xs,
λzZ5=>(by obtain⟨o,S,ab,q⟩:=F;exact⟨o,D T o ae S,ab,q⟩),
λwG=>.refl _,
λBR=>[nO,sO 3],
λTD=>mC (.int 7),
λTF=>(by exact sc__law_plain.nd),
λrC=>x="or",
λTH A=>Wj (A.map cdL) [],
λwH=>m<=1000,
λzZ6=>(by rcases p with rfl|rfl<;>decide),
λrD=>(by refine bN ?_),
λTJ=>way.map Qbo,
λTK=>Wd.map .str,
λzZ7=>Z.map λq=>(trQ q,ZT q,W.bl true),
λTL=>.dic Ck,
λzw9=>∃t,u=Value.int i t,
λtV=>sO w,
λzx0=>QZ (f b _ q λz=>z),
λzx1=>s.heap.objs.size<=D,
λzx2=>I.ok.cab x c L t,
λzZ8=>(by obtain⟨q,r,o⟩:=hN a j p;exact⟨q,r,a,j,I3,o⟩),
λTM j=>(by obtain⟨o,e,c,d⟩:=id j),
λzx3 a y H s g=>Inv X a y H { s with heap:=g,toks:=tk },
λTN a b=>starEach [a,b] X.env,
λzx4=>us.length=ps.length,
λzx5=>λb ob q=>Nl _ q,
λzx6=>cp.length=Nb.length,
λzZ9=>(by cases g;unfold Rw at rv;obtain⟨r,f,rfl,j,o⟩:=rv),
λzx7=>as.length=bs.length,
λzx8=>compareOp .NotIn,
λMe=>YZ false,
λzx9=>P (n+r.length) a h',
λBS=>R1.ρ j,
λMf a b=>(by obtain⟨i,a⟩:=NN.mp b),
λzU t b=>t.fits b.size,
λzy0=>λ(p:Nat)=>rawInt p,
λTQ h u=>sO (lsO h.toArray u),
λja0=>λi v=>∃e,es[i]?=sO e/\v=e.key,
λMg=>Qc4 true,
λzy1=>by unfold Rw;rfl,
λja1=>(by show wV;refine Xi NO IG Oi UZ ?_ ?_;exact Qb _),
λzy2=>Qr (GX ?_) Qk ?_ ?_,
λzy3=>Qr (Ws ?_) Qk ?_ ?_,
λzy4=>b.rws++[b.st.head?],
λzy5=>b.rws.map (rv b),
λja2=>Qy (Qn wEq (Qg i) (mC (.str c))),
λTR d=>(by obtain⟨y,r,rfl⟩:=VC d),
λMh=>D.map ZT,
λja3=>wIx (Zl ["pair",a,w,b,c]) (.int 2) h,
λMj=>.int e.2,
λja4=>(by simp only[Ya8,decide_eq_true_eq,not_exists,not_and]),
λzy6=>(ly E S Aa L).2,
λMk=>.int e.1,
λja5=>sO (.dct (prD (ins D (QgZ n o)))::R),
λMl=>.pu n ts,
λja6=>(by unfold Xx;generalize Ve _ A0 (V1 (J0 f))=Q at n),
λtW=>dR R,
λTU=>a<h.objs.size,
λjZ b u e=>λb u e=>?_,
λja7=>(by obtain⟨u,l,rfl,⟨t,rfl⟩,⟨n,rfl⟩⟩:=QbR r),
λja8=>⟨"tuple",_,EH.lookup,j.typeIs,?_⟩,
λk3 q=>λq=>?_,
λja9=>beq_eq_false_iff_ne.mpr (EI (NB a)),
λTV=>f p.1 q.1 q.2,
λjb0 q l=>(by have:=EW.mp q y l;simp only[N5,bne_iff_ne]at this;exact this.1),
λTW=>t.dummies=#[],
λTX=>.seq items nl,
λjb1=>How w S T h es ep t vs i (.int c 0),
λjb2 c=>Q c { s with heap:=h',drawn:=d,toks:=tk },
λTY e h=>(by obtain⟨o,e,h,hd⟩:=id hit),
λjb3=>DctE prog w h' d (storedH xs k a v),
λjb4=>λb o d e=>D b o d (hk b o d e),
λjb5=>.Call (.Name "reversed" O) [e] [] l,
λjb6=>by show(x.cps++y.cps).toList=_;simp,
λjb7=>WD (s:=s) (h:=qH met st) (n:=0) rfl,
λjb8=>Ko (b:=ZP 6) (body:=V1 (J0 f)) ei D,
λjb9=>Ko (b:=ZP 6) (body:=ZN (Zf d)) ei U,
λjc0=>λh k p=>Qdm (g:=r) QgU p ?_ (WC _),
λiQ i=>.inl i,
λMm=>A[i]?=sO x,
λBT=>t σ h,
λMo=>X.pn++pins,
λjc1=>swapsWithSole [b] e pos.line X.env,
λzy7=>eval iter X.env,
λzy8=>∀b∈M,y b=nO,
λzy9=>a.length<=sizeLine,
λzz0=>z.length<=sizeLine,
λzz1=>Binds X.K fd ps ds,
λzz2=>a.names.lookup y.1,
λzz3=>Rws.mono e ws xs d,
λMp x r=>Rws.mono x _ _ r,
λjc2=>λa h=>(b a h).bind λp=>f p.1 p.2,
λMq=>PMT X a ta,
λzz4=>(by obtain⟨_,_,rfl,_⟩:=r;rfl),
λTZ=>Ye ws lo a,
λzz5=>by unfold eqW;simp,
λMr=>JC us=true,
λzz6 h=>SetL prog w h a ks led,
λzz7=>Obj.putSet b t',
λjc3=>if x∈ks then ks else ks++[x],
λzz8 h=>SetI prog w h a ks led,
λT'=>(by intro i s H J st hS t),
λBU=>ledW w,
λzz9 r=>StrsAre items.toList r,
λUf=>Na (FK ?_),
λjc4=>((NV ..).extBut.push _).push _,
λzA0=>X.mg "reversed"=nO,
λU' p h' e F=>(by obtain⟨R,p,h,w,h',rh,st,e,kk⟩:=F),
λjc5=>[nO,sO 8,sO 3,sO 7,sO 2,sO 4,sO 5],
λV'=>(by exact Qb _;exact Qb _),
λWF=>(by exact sc__law_feed.nd),
λzW=>Qg 11,
λzA1=>by simp[bst,h.len],
λjc6 a=>DB (t+st*a) (show(26:Int)≠0 by decide),
λjc7=>(O++[("either":Str)]).map .str,
λjc8 O=>⟨O.dropLast,O.getLast h,(EO h).symm⟩,
λWP c=>.int ((c:Int)+1),
λzA2=>ls.length-(k+1),
λMs=>∃k,f=k+1,
λjc9=>(by ·refine bP ?_;simp at en b;simp[Zo,QM,QF,f,en,b]),
λW'=>(by simp only[Gb,n,z]at e),
λMt=>CL p out M,
λMu=>.str "put",
λwI i=>Sum.inl i,
λwJ r=>.cons r t,
λwK t=>t x y H Q,
λjd0=>swappedStores [b] e X.env=pure nO,
λBV s=>tn i s.heap,
λwL=>(i:Nat),
λjd1=>λo tk k=>⟨_,H,I.kept k,?_,q⟩,
λjd2 l j=>t { nx:=λ_ l=>Q .non l,rt:=Q } (start N j) H,
λjd3=>BindsTo s fd ⟨[u],[]⟩ [(x,u)],
λBW h=>(by unfold Rw at h ⊢),
λBX b=>Rh K R' h b,
λjd4=>newExc (.type "StopIteration") [],
λjd5=>∃t,m={ s with heap:=g,toks:=t },
λwM c=>H++[QO c],
λwN h=>LH G Ls h,
λjd6=>λ_ _=>Classical.propDecidable _,
λtX=>(by refine Na ?_),
λwO=>EA _,
λzA3 I=>λb o e=>(I.bs b o e).1,
λXL=>λ_ _=>False,
λj3 c=>c σ h,
λjd7=>(x==("__classdict__":Str))=false,
λjd8=>.BoolOp .Or (a::b::rest) pos,
λXV=>(a-lo).toNat,
λzA4=>compareOp .LtE,
λzA5=>sizeLine=16777216,
λjd9=>envOfC b a s.heap.objs.size f cd,
λje0=>λf j t e=>fin c g i f j t e,
λX'=>PlainAttrs T,
λYP=>ns.length<=n,
λzA6 y=>base.Ns mainGlobals y,
λY'=>q.gsub a u e,
λwP=>mC w,
λZB=>items.drop i,
λZ'=>PMA X [a] ms,
λBY=>KI x C J,
λMv=>eqW a b,
λBZ=>FX X G a,
λzA7=>(x,NameKind.free),
λMw h z=>(by rcases NM.mp h with z|z),
λzA8=>⟨[],rfl,.nil⟩,
λza0=>P (n+j) σ h,
λMx=>(by simp only[UO]at e),
λzA9=>by unfold pur;rfl,
λza1=>bits h%(m+1),
λzB0=>Value.type "list",
λje1=>λh' k=>z h' λb m a e=>k b m ?_,
λzB1=>by unfold Rws;rfl,
λzB2=>.type "enumerate",
λwQ=>cg g,
λMz=>(l+r)/2,
λje2=>.type "list_reverseiterator",
λzB3=>mC (.str "do"),
λtY=>(by refine XZ ?_),
λzB4=>Gy ?_ ?_ ?_ ?_ ?_,
λB'=>e.kd=.ei,
λje3=>2<=(l.filter λx=>x != c).length,
λza2=>x≠"either",
λza3=>sO (.int op),
λje4 E=>(by rw[XU];refine XQ E ?_;show kst (cd "end") _=_;rw[Qc3]),
λzB5=>GoodP 300 bs ws p,
λwR=>Zx p,
λC0=>Wt (i+1),
λzB6=>Qgy p q.1 (q.2+1),
λje5=>(r.length,t,0)::(i,s,c+1)::F,
λzB7=>LineOk bs ws la l,
λza4=>λ_ _ _=>rfl,
λje6=>mS p nO nO nO nO nO nO nO nO,
λza5=>q<out.length,
λC1=>sc E S n,
λzB8=>WB (swE E S) G Ls,
λzB9=>sO (tkW (d++[u])),
λMB=>sO .non,
λza6 h=>h.IsTuple a its,
λza7 V=>List (Option V),
λza8=>j b o e a,
λza9=>.bl false,
λzb0 k=>.Tuple es k pos,
λzb1=>λx=>!x.1,
λje7=>Ext R { R with F:=upd R.F p o },
λk4 G A f d=>k G _ _ A f d,
λzC0=>sO (.int (i/j),h),
λzC1=>sO (.int (i%j),h),
λje8=>decide ((e::es).length<30)=true,
λje9=>fin t1 ft (kp.1.trans m) uq,
λjf0=>!t.plain&&decide (es.size>1),
λzb2=>St.ledW w,
λzC2=>(Y7 kvs k).isSome,
λzC3=>(QgK kx k).isSome,
λzb3=>QA prog w,
λjf1=>Ev _ _ (if f>0 then _ else _) _,
λjf2=>Ev _ _ (if m<n then _ else _) _,
λjf3=>us.Pairwise λx y=>f x<=f y,
λjf4=>(by refine Zm ?_ ?_ ?_ ?_ ?_ ?_;exact NY;exact rfl),
λzb4=>(by exact sc__law_all.nd),
λzb5=>(by exact sc_steps_of.nd),
λjf5=>KS t d (by simp at q ⊢;omega),
λzb6=>(by ·simp[Zk,QM,b,a,ch]),
λzb7 B=>(Nd.mp B.at_).1,
λjf6 r=>r.map λq=>(trS q.1,QF q.1,W.int q.2),
λzb8=>ms.take k,
λzC4=>(Qiy h H).get? b,
λMC x=>env.kindOf x,
λzC5 x=>X.env.cells.lookup x,
λwS=>b∉ch,
λzC6=>I.freeC x c e,
λjF a=>.int a,
λwT=>c=true,
λMD=>PT X a tA,
λMJ H=>SqL K H a xs,
λzC7 a=>h.IsTupleIter it a i,
λzC8=>Value->Sem Value,
λzC9=>compareOp .Lt,
λzD0=>compareOp .Is,
λMK=>UV CX X E,
λzD1=>d.names.lookup y,
λzD2 b=>HT.sIx b.length 0 lo,
λML r=>.cons r .nil,
λMM z=>absurd rfl z,
λjG d=>.lst d,
λzX f c=>by simp[f,c],
λzD3 σ2 h2=>JX items src b body r σ2 h2,
λjf7=>HT.sIx items.size items.size b,
λMN=>T=="list",
λMP=>T=="dict",
λjf8=>JX items nO b body (w::r) σ h,
λzb9 O=>(by obtain⟨x,l⟩:=ah i O),
λzD4 d=>(by unfold box;rw[d,Nk];unfold QgL),
λtZ q=>.int q.1,
λjf9 F=>(by have b1:d.size<scanBound:=by rw[F,NK,Ei];exact room),
λjg0=>SetL prog w h' a (ks++[x]) led,
λjg1=>SetI prog w h' a (ks++[x]) led,
λjg2=>Value.type "StopIteration",
λjg3=>s.heap.objs.size<=h'.objs.size,
λjg4=>Nh (Na (IR hit.typeIs ?_)),
λjg5=>∃old,IsEnum h e it i old,
λjg6=>(by obtain⟨_,⟨old,g⟩,⟨Y,M,c1,d1⟩⟩:=st),
λjg7=>λT vals h' tk J hT F f hk=>?_,
λzD5=>["pair",x,w,y,z],
λwU=>.ref 1,
λzc0 d t=>show d+1<=t from z,
λzD6=>by rw[NQ];lia,
λzD7=>sO (.str x.1),
λMQ z=>.inl (z:Int),
λk5 J G=>(by exact⟨J,G⟩),
λjg8=>.Constant (.bool b) j pos,
λjg9=>.BoolOp .Or (b::rest) pos,
λjh0=>V->V->V->Hp->(Hp->Prop)->Prop,
λzc1=>A.length<=j,
λzc2=>⟨us,[]⟩,
λzc3=>Option Expr,
λjh1=>by rw[Nr];exact r.length.symm,
λzc4=>sO (.lst c),
λjh2=>by rw[m];exact⟨_,z,q⟩,
λzc5 I s y=>I.kept (t':=s.toks) y,
λzc6=>n<=sizeLine,
λzc7=>sO (.dT kx),
λjh3=>∀D σ H,t' D σ H->t D σ H,
λzc8=>PMA X es ms,
λzc9=>OpM X.K r f,
λzd0=>sO (.non,h),
λzd1=>y.2≠.cell,
λzd2=>(T i x l).2,
λzd3=>(X i x l).1,
λjh4=>xs.length+ys.length<=sizeLine,
λjh5 c=>(by obtain⟨o,a⟩:=a;unfold Z4;rw[c,Nk];simp only[a]),
λjh6=>Nh ⟨true,rfl,_,sb,g4,rfl⟩,
λjh7 n=>by simp[Builtin.List.listSameRef,n],
λzd4=>a.length<64,
λzd5=>D.length<64,
λjh8 l=>by have e:=OI l;exact Nn (Nt e) hsz,
λjh9=>n={ s with heap:=g,toks:=tk },
λzd6=>(ps[i]).2.1,
λzd7=>(ps[i]).2.2,
λji0=>λg1 c a b=>E9 (fin g1 c a b),
λji1=>DefAt K mg "first_spot" JZ [],
λji2=>λc=>⟨DB _ (Oa c),DR _ c⟩,
λzd8=>L.length<=8,
λzD8=>⟨L,J,h',?_,S⟩,
λC2=>trQ q,
λzd9=>Ot j f h h',
λji3=>sO (.int (min (a+1) b:Nat),h),
λMR=>inC C a b,
λk6 x=>.inr x,
λzY x=>Sum.inr x,
λji4=>(by obtain⟨_,_,_,_,o,_,_,e,_⟩:=x;exact NC e),
λzD9 y a=>I.base.keep b o e n y a,
λzE0 y a=>I.base.slot b o e n y a,
λzE1 u=>storeName X.env x u,
λu0 Y=>(by exact⟨_,Y⟩),
λzE2=>⟨v,H,I,r,h⟩,
λMS=>.str y,
λji5=>(assignEach es X.env).length,
λji6 B=>(by have B:Data.fields _=Data.cell v:=z;cases B),
λji7=>.For tg iter body [] pos,
λu3 r=>(by rw[<-r.length]),
λzE3=>.List es pos,
λzE4=>Nt this.symm,
λMU=>DJ _ _,
λzE5=>Qiy c.heap H,
λzE6=>(by obtain⟨a,xs,d,c,b⟩:=r),
λMV h=>(by rw[Rws.nil_iff]at h),
λze0=>p.take j,
λC3 R=>Ro K R o u,
λzE7=>(by rcases below n b with b|b),
λzE8 d=>s.heap.IsTuple ad d,
λze1=>wIn true,
λze2=>Rw.str _,
λze3=>(by simp only[EF,b]at h),
λzE9=>List (Str×Int),
λC4 r=>r.length+1,
λze4=>xs.map f,
λzF0=>by size_fits,
λMW=>atP es,
λze5=>Nz _ rfl,
λzZ a=>a.Perm ks,
λzF1=>Gl X "reversed",
λzF2 h=>DctE prog w h D kvs,
λzF3=>mC (.int 26),
λA0=>ZP 6,
λze6=>(by exact Qb _;exact JV),
λze7=>(by exact sc_is_tree.nd),
λMX=>sz-1-i,
λji8=>(by unfold QgL;rw[if_pos Ez];simp only[Z8,Nk,e]),
λA1=>cd x,
λzF4=>p[s.part]?=sO x,
λzF5=>(a++[x]).length,
λze8=>met++[t],
λzF6=>decide (s∈met),
λzF7=>.lst (pth F),
λze9=>(nx p s)[c],
λzF8=>(i,s,c+1)::F,
λzF9=>.dct (Kp [sp0]),
λC5 n=>Eg p out n,
λzf0=>l.map Z5,
λzG0=>List (Spt×Nat),
λA2=>dI G,
λji9=>if o<n then(o:Int)else n,
λzG1=>by simp[cpO],
λzG2 e=>(λt e=>(by cases e)),
λjj0=>sO (.bl (shE L C m d t R),h),
λzG3=>QL 0 out.length,
λC6 a=>⟨a,rfl⟩,
λzf1 y a=>λb o e n y a=>?_,
λC7=>[a,b,d],
λjj1 q=>λhn b q=>⟨hn b q,(f2 b q).2⟩,
λjj2=>c.length+a.length<=sizeLine,
λzG4=>d.length+c.length<=sizeLine,
λzG5=>.ins C dx fs,
λjj3=>λv d=>(ES.mp b).1 (OB d).1,
λwV=>(by refine Q7 ?_),
λjj4=>sO ⟨oc,od,.func fd,osl⟩,
λjj5=>.inl (.inr ⟨o,e _ _ h⟩),
λMY=>R.ρ x,
λwW=>(by rw[this];rfl),
λzG6=>⟨_,p.isList⟩,
λjj6=>(by rw[this,G0 (n+1) w2 _ w];exact EqAt.same _),
λjj7 c=>if neg then ! Cg else Cg,
λC8=>Ee.mp h,
λC9=>(by decide +kernel),
λjj8=>by unfold wEq;simp[drf,eqW],
λjj9=>Rws.th_ok m s _ _ c g a,
λjk0=>SetL prog w s.heap a ks led,
λjk1 z=>(by obtain⟨e,z,p⟩:=(i x).mp f;have:=D7.mp hr e z),
λjk2 U=>(by have M:U.size=d.size:=by rw[<-NP,l.length_eq,NP]),
λjk3=>SetI prog w s.heap a ks led,
λjk4=>by unfold argsOk;kernel_rfl,
λjk5 D=>(by simp only[Ec];refine Na (FH D rfl ?_);dsimp only),
λjk6=>λb a=>by simp at a;simp[a],
λjk7=>if_neg (by rw[IL];exact Ea),
λjk8=>(by rintro r j ⟨rfl,rfl⟩;exact Nh z),
λjk9=>dictEpoch d (keyPart .none),
λCa=>List Kv,
λwX=>(by refine Vf ?_),
λCb=>dcn x.2,
λjl0 h=>(by simp only[Tr.t.injEq,OE,Tr.i.injEq,and_true]at h),
λjl1=>Dfs p met (s::st) (n+1) out,
λjl2=>(St.uniq (prw p)).length<=5,
λCc=>t∈out,
λCe=>List Fn,
λjl3=>if n<o then(o:Int)else n,
λzf2=>r[j]?=sO w,
λMZ x=>IsT h n x v,
λNo=>.inr rfl,
λNE=>H a=sO o,
λzG7=>h.objs.size<=a,
λjl4=>Inv (X.wish E) pins σ H s,
λzf3=>J.stop i H,
λzG8=>(O.length:Int),
λzG9=>(R.length:Int),
λjl5=>by rintro rfl;exact h v NF,
λjl6=>Str.ofString "__getitem__",
λzf4=>R.length+1,
λA3=>.ref _,
λzH0=>Room k callerA,
λzH1=>λ_ _ _=>False,
λA4=>K.In h,
λA5 b=>⟨rfl,b⟩,
λA6=>R.ρ x,
λzH2=>SqT K R.F a xs,
λzf5=>Rw K R a x,
λjl7=>by rw[<-q.len];exact b,
λzH3 n=>Zd t body n σ2 h2,
λzH4 d=>s.heap.IsList ad d,
λzH5=>(n,NameKind.cell),
λjl8 p=>fin (a++(rest.filter p).map f) h,
λzH6=>List DictEntry,
λjl9=>(by unfold pur at p;cases p),
λzf6=>nrm w=sO k,
λzf7=>pln w=true,
λzf8=>pln a=true,
λzf9=>YK ws=true,
λzg0=>sO (ws,[]),
λzg1=>Qa4 _ w hw,
λzg2=>below xs j,
λjm0 S=>(by intro g f2 l2 p2;refine Na (IA S hd ?_ (IB b1))),
λN' i r G=>i.2 j r[j] (NH G),
λzg3 B G=>(by obtain⟨n,rfl,B⟩:=Ks G),
λO' V=>a.map V.str,
λjm1=>(by rw[q]at S;exact absurd (NC S) (NZ.mpr hT)),
λjm2=>(by obtain⟨old,g⟩:=O;obtain⟨Y,M,_⟩:=Q),
λjm3=>(by have hl:=rv.length;obtain⟨aj,O,Q⟩:=st),
λjm4=>I1.fpOk g (I1.hok.fresh g),
λzH7 u f=>⟨_,u _ _ f,rfl,_,rfl⟩,
λzH8 N=>(by obtain rfl:u=Value.ref ad:=N),
λjm5=>Dy (OV s) FV.lookup ?_,
λzg4=>Sb.Ex g h',
λzH9=>QN KF Qk ?_ ?_,
λzI0=>mC (.int 8),
λjm6=>Xi NO Iw Oy (Qak ?_) ?_ ?_,
λjm7=>["program","spot","lines"],
λjm8=>["program","rows","every"],
λzI1=>[nO,sO 0,sO 2],
λjm9=>Glob K mg "MOST_MAKERS" Z7,
λA7=>sO .ei,
λzg5=>Mat ls k e,
λzI2=>Nw (Np p s),
λjn0=>(b*69621+12345)%2147483647,
λzI3 n=>List.replicate n c,
λzI4=>Nn (Nt B) Q,
λzI5=>ls.length<=900,
λzg6=>Qdu (bk x),
λzI6 s=>Chn p s.way s.part,
λA8=>nx p s,
λA9=>[Zx p],
λzg7=>Option Str,
λzI7=>List (κ×Nat),
λP0=>ZQ [0,1],
λAa=>(K,[]),
λP1=>q.2<1000,
λzg8 t=>Value.str x t,
λzg9 a=>a==sysModules,
λrE E=>E b o e,
λCf n q=>(by rw[n]at q;simp at q),
λjn1=>.Constant .none j pos,
λjn2 a f=>h { D with nx:=N,ct:=N,bk:=D.nx } a f,
λjn3=>λ_ _ _ _ _ st h=>OL st h,
λjn4=>rI0 λi j=>.int (i+j),
λjn5=>HT.sIx xs.length 0 lo,
λjn6=>∀a o,F a=sO o->b a=sO o,
λzh0=>.rt w h,
λzh1=>X.pn++j,
λzh2=>.ref ad,
λjn7=>by rw[Nr,Nr];simp;lia,
λzh3 b=>some (.lst b),
λjn8=>env.scope.kind==.function,
λzh4=>At xs i,
λzh5=>Nl _ hS,
λjn9=>Es (F.entry_type_call) ?_,
λjo0=>by rw[Nq,N1,NH a];rfl,
λjo1=>by rw[Ij hd];simp[rawInt],
λjo2=>s.heap.IsTupleIter it l i,
λjo3=>(by have hl:=rv.length;obtain⟨_,O,Q⟩:=st),
λjo4=>λb o d e=>hk b o d e,
λjo5=>kas_rev p (k-(q+1)) k,
λjo6=>QcF a p.1 p.2.1 p.2.2,
λzh6=>R2.ρ n,
λjo7=>Qez ?_ ?_ ?_ QcM Qk ?_ ?_,
λjo8=>(by refine UY ?_ ?_ ?_ ?_ ?_ ?_ ?_;exact rfl),
λjo9=>(by obtain⟨E,en,G,H⟩:=x;simp only at G H),
λjp0=>λs m=>g s λz=>n (z▸m),
λzh7=>(by simp only at m f d),
λjp1=>(by rw[e]at z;simp[List.replicate]at z;omega),
λzh8=>tf f 26,
λjp2=>pS bs ws later e op u k c,
λzh9=>.str nm,
λjp3=>⟨r++[q],part,k,false⟩,
λjp4=>(by unfold YR;simp only[this,N7];simp[Kp,DC]),
λjp5 f=>sO (.lst [QF f.2.1,.int f.2.2]),
λjp6=>tH p out (Eg p out j),
λjp7=>(by unfold Ql1;simp only[B,Wm,Nk];unfold Qne),
λjp8=>h++[.lst ((ms D).map ZT)],
λzi0 d=>QL 0 d.length,
λjp9=>(s1 (by rw[S]at P;simp[P])),
λjq0 n=>Paired (IsT h n) ks its.toList,
λjq1=>decide (Tr.t ks=Tr.t ls),
λzI8=>(by rw[LO _ rfl];exact Nh h),
λP2=>g L O,
λP3=>f v u,
λzI9 j r=>λc v j r=>k c v ?_ r,
λjq2=>s.heap.Ns X.env.locals m,
λzJ0=>λ_ _ e=>e,
λP4 f d a=>(by obtain⟨f,d⟩:=Nd.mp a),
λzJ1=>TP X a b Q,
λwY a f m=>(by intro a s f H Q I m),
λjq3=>.BoolOp .And [a] pos,
λp8 e r=>(by subst e;cases r),
λjq4=>.While c body [] pos,
λAb a f=>QdW X a f b,
λzi1 h p r i=>(by obtain⟨h,rv,p,r⟩:=I1.list i),
λzJ2=>by rw[M,o],
λjq5 j=>sp j H Q E->j.length=ps.length,
λzJ3=>min v.toNat n,
λjq6=>HT.sIx d.length 0 lo,
λjq7=>([]:List Keyword).length,
λzJ4=>a.length-1,
λzJ5 X=>by rw[Ny];exact X,
λP5=>KP st,
λzJ6 b=>Fun K x b st f fd,
λzJ7 f=>(by rw[ND,ND];refine .cons ?_ f),
λjq8=>starEach [e,f] X.env,
λzJ8=>.ref q.2.1,
λzJ9=>upd R.F p o a,
λjq9=>∀a u,R.G a=sO u->a≠p,
λzK0=>.ref H.length,
λzK1=>Qn f ma mb,
λP6=>Ql5 q,
λjr0=>pure (ForInStep.yield r),
λjr1 m=>λp P z=>sz (I2.pin p P).1 m z,
λjr2=>λb E o e=>old b o e,
λzK2=>x.cps.size<=i,
λjr3=>Z4 fin mi cp b mt me,
λjr4=>Z4 fin mi cp b YF me,
λCg=>inW x c,
λjr5=>(atI d i).map λw=>(w,h),
λP7 i e=>(by rename_i i;split at e),
λzK3=>some (.dic _),
λzK4=>some (.dct _),
λP8 x y d O D=>(by obtain⟨x,y,rfl,d,O⟩:=QjO D),
λP9=>N0 ?_,
λzK5=>by rw[Nr];lia,
λAc u S=>KQ (k:=u) S,
λCh=>Ub h,
λzK6=>R.N+js.length,
λjr6=>(by cases e;obtain⟨v,u,rfl,i,g⟩:=QjO rw),
λjr7=>by rw[i.int_eq,g.int_eq],
λPa=>(by unfold pln at p),
λPb=>(by unfold dep at d),
λjr8 p=>fin ((items.filter p).map f) h,
λjr9=>(by ·obtain⟨rfl,q⟩:=q;exact⟨rfl,q⟩),
λCi=>Fh _,
λjs0=>Na (Nh (wpAny_throw ?_)),
λjs1=>Es (entry_list_iadd') ?_,
λjs2=>Nh (Na (FN e hd ?_)),
λjs3=>Heap.ExtBut it s.heap h',
λzK7=>storedH_old t,
λzK8=>b.length<4000,
λjs4=>λh' tk hk=>⟨rfl,?_⟩,
λjs5=>⟨NS _,⟨_,m⟩,hit⟩,
λjs6 q=>List.foldl _ (Qbd _ q.1 q.2) _,
λjs7=>sO (seqObj "list" #[] M),
λzK9=>by simp;omega,
λzL0 b=>b.map λp=>kW p.1,
λPc=>ZP 10,
λzL1=>(by refine Xg ?_;exact Qb _),
λCj=>ZP 4,
λzL2 n=>(by rcases n with z|z<;>simp[z]),
λzL3=>(by rw[f]at this;exact this),
λjs8=>v=3\/v=5\/v=7\/v=9\/v=11,
λjs9=>Wj ((L++[l]).map cdL) [],
λzL4=>∃y r,l=y::r,
λPd=>k+1+i,
λjt0=>[⟨way,part,fs,true⟩],
λjt1=>.lst (st.map QF).reverse,
λjt2=>Dfs p [] [sp0] (n+1) out,
λzL5=>(i,s,c)::F,
λzL6 d=>(A.rc _ (UP d)).v,
λCk=>dK S,
λjt3=>(by have en:Z5 e.2=.int e.2:=rfl;rw[en]at d),
λzL7=>.ref (s+1),
λjt4=>.lst (ts.reverse.map Q1),
λzi2=>Option HO,
λjt5=>(g c z).2.2.1 x c e rfl,
λjt6=>z.sameBut f (cne y c e),
λjt7=>.BoolOp .Or [a] pos,
λjt8=>.UnaryOp .Not a pos,
λzi3 H'=>J.yld i H x H',
λCm g m=>⟨o,g,m.1⟩,
λzi4=>PA X es t,
λjt9 c i=>(by refine Na (tupleItemsOf_ c ?_);refine Na (Dt i ?_)),
λju0=>.builtin "dict.get",
λzi5=>Ext R1 R2,
λju1=>p.1=q.1/\Rw K R p.2 q.2,
λju2=>N.length=ps.length+more,
λju3=>pure (ForInStep.yield ok),
λju4=>ty="str_ascii_iterator",
λzi6 b=>⟨b,rfl,rfl⟩,
λzi7=>PM X i mi,
λzi8=>PM X e mv,
λzi9=>dep a<=40,
λzj0=>.int ep 0,
λju5=>(by simp only[raiseNew];refine Na (Yap ?_)),
λzj1=>fin _ _ q,
λzj2=>PM X e me,
λzj3=>b=e\/b=it,
λju6=>.Tuple elts kk tpos,
λju7=>s.heap.IsListIter I l i,
λzj4=>(ps[i]).2,
λzj5=>(ps[i]).1,
λCn k=>Inc g p k,
λju8=>sO (St.lsO i.toArray z),
λju9 q=>mgX (QcF _ q.1 q.2.1 q.2.2) _,
λzj6=>ls[e.fs]?,
λCo L=>(by by_cases c:q∈L),
λjv0=>t<(bks ls k).trs.length,
λzj7=>x.2[s.k]?,
λzj8=>MSt->Prop,
λzj9=>Nat->Prop,
λjv1=>(nx p s).reverse.map QF,
λjv2=>if_neg (λz=>hj z.symm),
λjv3=>.lst ((Wds p).map .str),
λjv4=>.lst ((prw p).map .str),
λjv5=>Eg p out out.length,
λjv6=>h'[j]?=sO (.dic (fd c)),
λjv7=>.lst ((bs++[t]).map Q1),
λjv8=>(by rcases hw with rfl|rfl|rfl|rfl|rfl|rfl)]
noncomputable section
namespace _Z
/-! THE HAND LAYER, for ints, bools, texts, own classes, LISTS and tuples (index, slices, in, append, pop ..), calls, loops. Paste it whole ahead of your own text; what your proof does not reach may be deleted. -/
open PySem renaming wpAny_bind->Na,wpAny_pure->Nh,boot_len->NL,wpAny_holding->N0,wpAny_mono->N8,wpAny_call_entry->Ej,wpAny_newObj_type->Eo,codeAny_builtin->Es,wpAny_callSpecial?_slot->EG,wpAny_Call_Name_kw->EL,wpAny_rule->De,plainId_quiet->Dk,wpAny_setField->Dl,wpAny_typeOf->Dt,wpAny_specialOf->Dy,wpAny_setState_of->DD,wpAny_typeNameOfWhole_keyiter->DG,sizeLine_eq->DL,codeAny_mono->DN,wpAny_pyIter_tuple->DP,wpAny_passesOwn->DU,builtinLookup_eq_fast->DX,wpAny_dictEpoch->DY,wpAny_askSetting->Fg,wpAny_typeNameOf_keyiter->Fi,mem_of_lookup->Fo,wpAny_getItem_str_slice->Fq,wpAny_loadPart'->Fx,wpAny_pyIter_list->FB,wpAny_dictEntries->FG,wpAny_seqItems->FH,wpAny_runValue->FK,isSubtype_type->FL,wpAny_fieldsOf->FN,wpAny_notOrdered_dict->FO,wpAny_isInstance->FR,wpAny_newList->FY,wpAny_field->F0,typeLookup_type->F8,wpAny_truthy_bool->Iy,wpAny_storeSet_of->IA,fits_of_scanBound->IB,wpAny_pyIter_enum->ID,storedH_new->IJ,wpAny_standAt->IK,beq_builtin_none->IL,wpAny_forIn_list->IM,wpAny_isOneOf_keyiter->IR,wpAny_execs_nil->IU,call_meets->IV,post_val_or_str->IW,codeAny_of_tree->IZ,wpAny_pyIter_revIter->La,wpAny_setEntries_of->Lj,callType_codes->Lu,wpAny_of_eq->Lw,putSet_of->Lz,wpAny_attempt->LJ,eqIsQuiet_byValue->LO,wpAny_sequenceKey->LS,wpAny_pyIter_slot->LY,wpAny_load->L0,wpAny_eqBool_int->L8,noFill_tuple_add->Oc,call_meetsIn->Oe,wpAny_Call_method0_late->Os,wpAny_ite_split->OF,wpAny_updateSeq->OG,size_of_entries->OI,wpAny_pyNext_range_end->OJ,wpAny_pyIter_rangeiter->OL,wpAny_Assign_Subscript->OQ,typeIs_none->OV,weight_type_call_type->O2,wpAny_loadName_local->Qq,codeAny_call_builtin->Yae,codeAny_extend_loopS->Yaf,wpAny_updateDictKeys->Yai,seq_tuple_add->Yam,wpAny_handled->Yap,evalArgs_none->Yat,concat_meets->YaC,seqIndex_neg->YaE,list_append->YaT,putAt->YaX,call->Yba
open Option renaming bind_eq_some_iff->Nc,map_eq_some_iff->Nf,bind_some->Nk,map_some->N7,toList_some->Di,isSome_map->D4,isSome_eq_false_iff->LM,isNone_iff_eq_none->L7,isSome_iff_exists->Ob,getD_none->Ya0,map_map->Ybe
open List renaming getElem?_eq_some_iff->Nd,getElem?_eq_getElem->Nj,getElem?_map->Nq,size_toArray->Nr,length_map->Ny,mem_cons_of_mem->NA,map_cons->ND,mem_cons_self->NF,mem_singleton->NG,mem_map->NI,getElem?_append_left->NJ,length_append->NK,mem_cons->NM,mem_iff_getElem?->NN,length_cons->NQ,mem_append->NU,getElem?_eq_none->NW,mem_append_right->N4,find?_cons->N9,length_eq_zero_iff->Ee,length_singleton->Ei,not_mem_nil->Ek,mem_append_left->Em,mem_range->Ep,nodup_append->Ew,map_append->Ey,nodup_nil->Ez,map_map->ED,lookup_cons->EF,getElem?_set_ne->EJ,mem_of_getElem?->EK,findIdx?_eq_some_iff_getElem->EN,dropLast_concat_getLast->EO,nodup_cons->ES,idxOf_lt_length_of_mem->EU,all_eq_true->EW,getElem?_set_self->EX,drop_eq_getElem_cons->EY,mem_map_of_mem->EZ,length_take->E3,getElem_mem->E4,map_nil->E7,ext_getElem?->E8,length_pos_iff->Da,append_nil->Dd,length_filter_le->Df,take_length->Dj,getElem?_cons_succ->Dm,take_add_one->Dq,getElem?_range->Dr,length_reverse->Ds,drop_eq_nil_of_le->Du,getElem?_append_right->Dw,getElem?_toArray->Dx,getElem?_zipIdx->DA,pairwise_map->DE,getElem_idxOf->DS,mem_filter->DT,length_set->DV,nil_append->DZ,any_cons->D0,getD_eq_getElem?_getD->D1,length_range->D3,mem_iff_getElem->D6,findIdx?_eq_none_iff->D7,pairwise_iff_getElem->D8,mem_of_mem_take->Fb,mem_flatMap->Fl,length_zipIdx->Fy,filter_append->Fz,take_of_length_le->FA,foldl_append->FE,append_assoc->FF,mem_of_mem_drop->FS,filterMap_cons->F3,toList_toArray->F4,map_congr_left->F5,length_nil->F7,length_erase_of_mem->Ih,length_filterMap_le->Im,find?_eq_none->Io,mapM_cons->Ir,reverse_cons->Iz,pairwise_lt_range->IH,take_succ_eq_append_getElem->IP,getElem?_reverse->IS,range_eq_range'->IX,mem_erase_of_ne->I0,reverse_reverse->Lb,getElem?_modify->Lf,filter_map->Lg,mergeSort_perm->Ll,mem_filterMap->Lx,length_eraseIdx_of_lt->LG,all_eq_false->LN,take_sublist->LR,getElem?_set->LU,find?_isSome->LZ,getElem?_eq_none_iff->L6,getElem_inj->L9,length_drop->Od,range'_succ->Og,eq_of_mem_replicate->Oj,nodup_range->Ol,countP_cons->Om,map_reverse->On,getElem?_replicate->Oq,pairwise_mergeSort->Ow,filter_cons_of_neg->Oz,of_mem_zip->OB,foldl_cons->OC,range_succ->OD,drop_of_length_le->OU,filter_eq_nil_iff->OW,length_pos_of_mem->OX,dropLast_eq_take->O1,set_getElem_self->O6,perm_cons_erase->Yah,all_cons->Yao,mapM_nil->Yaq,sum_cons->Yar,filter_eq_self->Yav,replicate_succ->Yaw,getElem?_drop->YaH,map_inj_right->YaN,countP_append->YaP,set_cons_zero->YaQ,any_eq_false->YaR,any_toArray->Ya2,filter_cons->Ya3,any_eq_true->Ya8,forIn_cons->Ya9
open PySem.W renaming Frag->Ng,kia_one->ER,keepIn->DI,fnOf->DO,mg_of->FX,nsIn->Ic,codeIn->Lm,methodObj->LP,kitx_list->LQ,instObj->OA,cellsFrom_some->ON,lookIn->OZ,findIn->O0,pyHash_slot->Yas,kitx_tuple->YaB,kitx_dict->YaS,plainGet->YaY,kdl_call->Ya5,KeysLit->Ybc,kitOne->Ybd,WalkO->Ybf
open Nat renaming lt_of_lt_of_le->Ni,le_trans->Nn,lt_of_le_of_lt->Np,le_of_eq->Nt,le_add_right->Nu,le_refl->Nv,le_of_lt->Nw,ne_of_lt->NB,zero_add->NR,zero_le->NS,lt_trans->NT,not_lt->NZ,lt_succ_self->N6,add_lt_add_left->El,le_add_left->Eu,lt_irrefl->EA,ne_of_gt->EC,lt_succ_of_lt->EV,not_lt_zero->E2,add_le_add_right->E5,add_lt_add_right->E6,add_right_comm->Dh,le_antisymm->Dz,min_le_right->DJ,sub_le->D5,le_succ->Ff,succ_pos->Fh,lt_trichotomy->FC,not_lt_of_le->FU,add_assoc->FW,not_le->Iq,mul_le_mul->Lo,lt_or_eq_of_le->Ly,le_of_lt_succ->LV,sub_lt_left_of_lt_add->L5,add_sub_cancel_left->Ou,mul_le_mul_right->Yak,mul_le_mul_left->Yax,add_zero->YaF,lt_or_ge->YaG,succ_ne_self->Ya6,min_eq_right->Ya7
open PySem.Heap renaming get?_push_of_some->Nl,get?_push_size->Nz,lt_size->NC,get?_update_self->Eh,get?_update_other->EM,size_push->DK
open Array renaming getElem?_eq_getElem->NH,length_toList->NP,getElem?_toList->N1,getD_eq_getD_getElem?->DQ,toArray_toList->D9,getElem?_eq_none->II,mem_of_getElem?->IT,getElem?_eq_some_iff->LF,toList_push->LX,mem_toList_iff->Yaa,forIn_toList->YaA
open PySem.F renaming plainAttrs_list->NO,slot_list_append->NX,type_list_append->N3,called_set->ET,slot_dict_keyiterator_next->E1,slot_tuple_iterator_next->D2,slot_list_pop->Fe,plainAttrs_dict->Fv,slot_dict_get->FJ,type_list_pop->FP,slot_NoneType_hash->FV,slot_dict_contains->FZ,args_tuple_add_2->Ia,args_dict_keyiterator_next_1->Ii,slot_list_getattribute->Ik,entry_dict_keyiterator_next->Iu,entry_tuple_add->Iv,slot_list_index->Iw,slot_tuple_add->IE,slot_list_extend->IG,plain_extend_loop->IQ,called_tuple->Le,args_tuple_iterator_next_1->Lr,slot_dict_setdefault->Lv,entry_tuple_iterator_next->LA,slot_dict_getitem->L4,slot_dict_values->Oh,type_list_extend->Oi,args_object_init_2->Ov,plain_tuple_new->Ox,type_list_index->Oy,entry_dict_get->OR,slot_dict_iter->OT,type_dict_get->O7,args_list_append_2->Yab,sub_list_frozenset->Yac,kt_typeCall_dict_1->Yaj,entry_list_append->Yau,args_dict_init_2->YaM
open PySem.Heap.SameBut renaming update->NV,refl->YaU
open PySem.PassesOwn renaming never->NY
open Option.some renaming inj->N2
open Bool renaming and_eq_true->N5,false_ne_true->Ea,false_eq_true->Er,or_eq_true->DW,and_false->Ip,eq_iff_iff->IY,not_true->LC,and_true->Yal,or_false->Yan,eq_false_iff->YaW
open PyProof.Rows renaming callWith_type1->Eb,boot_tuple->EB,slot_tuple_getitem->EH,boot_dict->Dv,boot_list->DF,callWith_builtin1->Fw,boot_min->FQ,boot_sorted->Lh,entry_list_sort->OH,subscriptTail_builtinR->OO,slot_list_sort->O3,args_list_sort->O4,boot_max->O8,entry_proto_collect'->Yag,plain_sorted->YaJ,entry_sorted->YaK,args_sorted1->YaL
open Int renaming toNat_natCast->Ec,emod_nonneg->DB,eq_ofNat_of_zero_le->DH,le_refl->DM,emod_lt_of_pos->DR,le_trans->Fj,toNat_of_nonneg->Fp,le_of_lt->FI,le_of_eq->Il,not_lt->Lc,le_antisymm->Ld,lt_of_le_of_lt->LB,not_le->L3,ne_of_gt->Oa,zero_add->YaO
open PySem.Paired renaming length->Ef,snoc->OP
open PySem.Around renaming under_plainId->Et,under_plain->YaI
open Ne renaming symm->EI
open PySem.Calls renaming spliced_nil->E9,spliced_cons->Dg,call_function_entry->F9,callWith_builtin->IF,Name_function_global->LD
open PyProof.Rows.F renaming plain_set_update_loop->Dn,entry_set_update_loop->Ft
open Function renaming comp_def->DC
open LawfulBEq renaming eq_of_beq->Fc
open List.Pairwise renaming imp_of_mem->Fk
open PySem.Obj renaming data_mapDictKeys->FT,data_mapFields->Ij,isFreed_of_dict->Lk,isFreed_of_fields->O5,cls_mapFields->YaV,data_mapDict->Ya4
open Classical renaming byContradiction->F6,choose_spec->O9
open PySem.Code renaming quiet_builtin->Ig
open PySem.WalksT renaming enumerateD->IC
open PySem.Value renaming isStrOf_shape->Li
open PyProof.Rows.StrsAre renaming length->Lp
open PySem.Builtin.Dict_items renaming ownsTuple->Lq
open Int.ofNat renaming inj->LK
open PySem.Txt renaming slice_le->Of
open PySem.Challenge renaming pw_doneroom_k59_trees_looked_at->Oo
open List.cons renaming injEq->OE
open PyProof renaming noPylong_small->OM
open PySem.Str renaming ofString_eq_toList->OS
open List.Sublist renaming countP_le->OY
open PySem.Walks renaming list->Yad
open PySem.SeqAt.EqAt renaming int_str->Yay,str_int->Yaz
open PyProof.Rows.IsTup renaming new->YaD
open Prod renaming ext->YaZ
open PySem.IsL renaming update->Ya1
open PySem.Heap.DictOf renaming new->Ybb
open PySem PySem.Spec PyProof.Rows
open Option renaming some→sO,none→nO
namespace L2
noncomputable abbrev Key:=Sum Int Str
noncomputable def Qdp:Key->Value->Bool
 |eH k,v=>Value.isInt k v
 |k6 x,v=>Value.isStrOf x v
noncomputable def QtB(w:World):Key->Int
 |eH k=>hashInt k
 |k6 x=>hashStr w x
theorem ZE:∀{k:Key} {v:Value},Qdp k v=true->(∃i t,k=wI i/\v=Value.int i t)\/(∃x t,k=zY x/\v=zg8 t)
 |eH i,v,h=>by
  obtain⟨t,e⟩:=Value.isInt_shape (k:=i) (v:=v) h;exact .inl ⟨i,t,rfl,e⟩
 |k6 x,v,h=>by
  obtain⟨t,e⟩:=Li (x:=x) (v:=v) h;exact .inr ⟨x,t,rfl,e⟩
theorem Qfa(i:Int)(t:Tok):Qdp (iQ i) zA=true:=by simp[Qdp,Value.isInt]
theorem Qfj(x:Str)(t:Tok):Qdp (.inr x) (.str x t)=true:=by simp[Qdp,Value.isStrOf]
theorem Qnr(a b:Int):decide ((wI a:Key)=wI b)=(a==b):=by
 show AW e a b
 ·have h:¬(wI a:Key)=wI b:=λq=>e (Sum.inl.inj q);rw[lY h];show zt1 e
theorem Qnc(a b:Str):decide ((zY a:Key)=zY b)=decide (a=b):=by
 show AW e a b
 ·have h:¬(zY a:Key)=zY b:=λq=>e (Sum.inr.inj q);rw[lY h,lY e]
theorem QmH(a:Int)(b:Str):decide ((wI a:Key)=zY b)=false:=decide_eq_false (λq=>tU q)
theorem QnU(a:Str)(b:Int):decide ((zY a:Key)=wI b)=false:=decide_eq_false (λq=>tU q)
noncomputable def JG(prog:Program)(w:World):PySem.KeyKind prog w Key where
 is:=Qdp
 hash:=QtB w
 inj:=λv a b l f=>by
  show Cz l i t x
  ·show zq5 f j
   ·injection e with c _;rw[c]
   ·exact nomatch e
  ·show zq5 f j
   ·exact nomatch e
   ·injection e with c _;rw[c]
 byValue:=λk v h=>by
  rcases ZE h with⟨i,t,rfl,rfl⟩|⟨x,t,rfl,rfl⟩<;>rfl
 pyHash:=λd h=>by
  show Cz d i t x
  ·exact wpAny_pyHash_int h
  ·exact wpAny_pyHash_str h
 eqBool:=λg d h=>by
  show Cz g i t x
  ·show Cz d j u y
   ·rw[Qnr]at h;exact L8 h
   ·rw[QmH]at h;exact Yay i t y u _ _ _ _ h
  ·show Cz d j u y
   ·rw[QnU]at h;exact Yaz x t j u _ _ _ _ h
   ·rw[Qnc]at h;exact wpAny_eqBool_str h
 «strs»:=λk x t v h=>by
  show zq5 h i
  ·exact nomatch e
  ·injection e with c _
   subst c;cases v<;>rfl
theorem QbO(prog:Program)(w:World)(i:Int)(t:Tok):(JG prog w).is (iQ i) zA=true:=Qfa i t
theorem QbN(prog:Program)(w:World)(x:Str)(t:Tok):(JG prog w).is (.inr x) (.str x t)=true:=Qfj x t
inductive V where
 |non|bl (b:Bool)|int (i:Int)|str (x:Str)|byt (b:Array UInt8)|flt (b:UInt64)|ref (a:Addr)|ty (n:String)
 deriving DecidableEq
noncomputable def RelV:V->yY
 |.non,u=>u=Value.none
 |.bl b,u=>u=Value.bool b
 |aC i,u=>zw9
 |c4 x,u=>∃t,u=zg8 t
 |.byt b,u=>∃t,u=Value.bytes b t
 |.flt b,u=>∃t,u=Value.float b t
 |aF a,u=>u=fJ a
 |.ty n,u=>u=Value.type n
noncomputable abbrev Vals:bA->aX->Prop:=Paired RelV
theorem Vals.length{xs:bA}{us:aX}(r:iI):xs.length=us.length:=Ef r
theorem YE{c d:Type}{F:c->d->Prop}{b:cE c}{a:cE d}{j:Nat}{x:c}(p:Paired F b a)(e:b[j]?=sO x):∃v,a[j]?=sO v/\F x v:=by
 induction p generalizing j with
 |nil=>cases e
 |cons r t f=>
  cases j with
  |zero=>cases e;exact⟨_,rfl,r⟩
  |succ j=>exact f e
theorem Vals.get{xs:bA}{us:aX}{i:Nat}{x:V}(p:iI)(e:xs[i]?=sO x):∃u,us[i]?=sO u/\cU x:=
 YE p e
theorem Vals.set{x:V}{u:Value}(r:cU x):∀{xs:bA} {us:aX} (i:Nat),iI->Vals (xs.set i x) (us.set i u)
 |_,_,_,.nil=>.nil
 |_,_,0,.cons _ t=>wJ r
 |_,_,i+1,wJ q=>.cons q (Vals.set r i t)
theorem Vals.append{xs ys:bA}{us ws:aX}(a:iI)(s:Vals ys ws):Vals (xs++ys) (us++ws):=
 a.rec s λr _ h=>.cons r h
theorem Vals.take:∀{xs:bA} {us:aX} (n:Nat),iI->Vals (xs.take n) (us.take n)
 |_,_,0,_=>.nil
 |_,_,_+1,.nil=>.nil
 |_,_,n+1,wJ r=>.cons r (Vals.take n t)
theorem Vals.drop:∀{xs:bA} {us:aX} (n:Nat),iI->Vals (xs.drop n) (us.drop n)
 |_,_,0,r=>r
 |_,_,_+1,.nil=>.nil
 |_,_,n+1,.cons _ t=>Vals.drop n t
noncomputable def RelO:j2 V->yR->Prop
 |dY v,sO u=>cU v
 |none,nO=>True
 |_,_=>False
noncomputable def KV{κ:Type}:l6->m3 κ->Prop:=Paired λ(p:κ×V) (q:κ×Value)=>p.1=q.1/\RelV p.2 q.2
inductive Tr where
 |i (n:Int)
 |s (x:Str)
 |t (ks:List Tr)
noncomputable instance trDec:DecidableEq Tr:=jd6
noncomputable def IsT(h:Heap):Nat->Tr->yY
 |0,_,_=>False
 |_+1,.i k,v=>(∃t,v=.int k t)\/∃b:Bool,v=.bool b/\k=if b then 1 else 0
 |_+1,.s x,v=>∃t,v=.str x t
 |n+1,.t ks,v=>∃a its,v=aF a/\za6 h/\jq0 n
theorem Qhy{d c:Type}{F:d->c->Prop}(g:∀x y v,F x v->F y v->x=y){xs ys:cE d}{e:cE c}(p:Paired F xs e)(q:Paired F ys e):xs=ys:=by
 induction p generalizing ys with
 |nil=>cases q;rfl
 |cons a s f=>cases q with|cons b t=>rw[g _ _ _ a b,f t]
theorem QbP{h:Heap}{n:Nat}{x:Tr}{a:Addr}(c:IsT h n x (aD a)):∃m ks its,n=m+1/\x=.t ks/\za6 h/\jq0 m:=by
 cases n with
 |zero=>exact c.elim
 |succ n=>
  cases x with
  |i k=>rcases c with⟨t,e⟩|⟨b,e,_⟩<;>cases e
  |s y=>show lO t e c;cases e
  |t ks=>obtain⟨d,its,e,p,q⟩:=c;cases e;exact⟨n,ks,its,rfl,rfl,p,q⟩
theorem Qbz{h:Heap}{a:Addr}{x y:eN}(e:h.IsTuple a x)(d:h.IsTuple a y):x=y:=by
 obtain⟨o,g,_,n,f⟩:=e;obtain⟨i,c,_,j,b⟩:=d;show bK g c;rw[f]at b;injection b
noncomputable def gT:Value->Tr
 |.int i _=>.i i
 |.bool b=>.i (A' b)
 |.str x _=>.s x
 |_=>.t []
theorem Qm3{h:Heap}{n:Nat}{x:Tr}{v:Value}(c:MZ x):(∃a,v=aF a)\/x=gT v:=by
 cases n with
 |zero=>exact c.elim
 |succ n=>
  cases x with
  |i k=>rcases c with⟨t,rfl⟩|⟨b,rfl,rfl⟩<;>exact No
  |s y=>show aN t c;exact No
  |t ks=>obtain⟨a,d,rfl,_⟩:=c;exact .inl (C6 a)
theorem Qd0{h:Heap}:∀{n:Nat} (x y:Tr) (v:Value),MZ x->MZ y->x=y:=by
 intro n
 induction n with
 |zero=>
  intro _ _ _ b _;exact b.elim
 |succ n j=>
  intro x y v b d
  by_cases r:∃a,v=aF a
  ·show aN a r;obtain⟨m,ks,i,e,rfl,p,q⟩:=QbP b;obtain⟨o,s,c,l,rfl,g,f⟩:=QbP d;show kR e l;cases Qbz p g;rw[Qhy (λx y v=>j x y v) q f]
  ·rw[(Qm3 b).resolve_left r,(Qm3 d).resolve_left r]
theorem QdD{g e:Type}{F G:g->e->Prop}(f:∀a b,F a b->G a b){d:cE g}{c:cE e}(p:Paired F d c):Paired G d c:=
 zZ0
theorem Qd6{h h':Heap}{d:Addr}{o:Obj}{es ep}(j:cQ d=sO o)(hd:Ss)(r:Heap.SameBut d h h'){n:Nat}(k:Tr)(v:Value)(x:MZ k):IsT h' n k v:=by
 induction n generalizing k v with
 |zero=>exact x.elim
 | succ n p=>
  cases k with
  |i k=>exact x
  |s k=>exact x
  | t ks=>
   obtain⟨a,f,e,⟨l,c,u,m,b⟩,q⟩:=x
   have g:a≠d:=by
    rintro rfl
    show bK c j;rw[hd]at b;exact nomatch b
   exact⟨a,f,e,⟨l,(r.2 a g).trans c,u,m,b⟩,QdD p q⟩
noncomputable def hN(w:World):Nat->Tr->Int
 |0,_=>0
 |_+1,.i k=>hashInt k
 |_+1,.s x=>hashStr w x
 |n+1,.t ks=>reduceHash (Builtin.Tuple.tupleHashOf (ks.map (hN w n)))
noncomputable def dN:Nat->Tr->Nat
 |0,_=>0
 |_+1,.i _=>1
 |_+1,.s _=>1
 |n+1,.t ks=>(ks.map (dN n)).sum+1
section
variable{prog:Program}{w:World}{E:bJ}
theorem Qam{n:Nat}{A:Around}(d:∀(k:Tr) (v:Value) (s:Shared) (Q:Int->eA),Bu k v->zV6->wpAny aT A (pyHash v) Q E s) :
  ∀(ks:List Tr) (c:aX) (s:Shared) (b:Array Int) (Q:Array Int->eA),Paired (IsT s.heap n) ks c ->
  (∀a,a.toList=b.toList++ks.map (hN w n)->Q a { s with toks:=s.toks+(ks.map (dN n)).sum }) ->
  wpAny aT A (forIn c b λx r=>do let h <-pyHash x;pure PUnit.unit;pure (ForInStep.yield (r.push h))) Q E s
 |[],_,s,b,Q,x,h=>by cases x;exact Nh (h b aB)
 | k::ks,_,s,b,Q,x,h=>by
  cases x with
  |cons e x2=>
   rw[Ya9];refine Na (Na (d k _ s _ e ?_));refine Na (Nh fP);refine Qam d ks _ _ _ Q x2 (bG a f);have:=h a (eC f);simpa[FW]using this
theorem Qjk:∀(n:Nat) (A:Around),Hk->∀(k:Tr) (v:Value) (s:Shared) (Q:Int->eA),Bu k v->zV6->wpAny aT A (pyHash v) Q E s
 |0,_,_,_,_,_,_,x,_=>x.elim
 | n+1,A,c,.i k,v,s,Q,x,h=>by
  show Aq x b
  ·exact wpAny_pyHash_int h
  ·refine Yas (T:="bool") rfl F.slot_bool_hash entry_int_hash (args_int_hash _) (IL _) (.inr (Np cJ c)) ?_;cases b
   ·exact(show wpAny _ _ (do ret (<-mkInt 0)) _ _ s from zZ1)
   ·exact(show wpAny _ _ (do ret (<-mkInt 1)) _ _ s from zZ1)
 |n+1,A,c,.s y,v,s,Q,x,h=>by
  show aN t x;exact wpAny_pyHash_str h
 |n+1,A,c,.t ks,v,s,Q,x,h=>by
  obtain⟨a,e,rfl,⟨o,d,f,m,hd⟩,q⟩:=x;refine Yas (T:="tuple") ⟨_,d,f⟩ F.slot_tuple_hash F.entry_tuple_hash (F.args_tuple_hash_1 _) (IL _) (.inr (Np cJ c)) ?_;show wpAny _ _ (Builtin.Tuple.tupleItemsOf (aD a)>>=_) _ _ s;refine Na (wpAny_tupleItemsOf d hd ?_);show tX;rw[<-YaA];refine Qam (n:=n) (λk v s Q=>Qjk n A.in1 (by show mG+n<cLine;lia) k v s Q) ks _ s #[] _ q (bG b g);show wpAny _ _ (retInt (Builtin.Tuple.tupleHashOf b.toList)) _ _ _;rw[g];refine Na (wpAny_mkInt (Nh ⟨_,_,rfl,?_⟩));simpa[hN,dN,FW]using h
theorem QlT{n:Nat}{h:Heap}{e:Nat->Bool}:∀{ks ls:List Tr} {us d:aX},Paired (IsT h n) ks us->Paired (IsT h n) ls d->(∀(j:Nat) (x y:Tr),ks[j]?=sO x->kN=sO y->e j=decide (x=y)) ->
  ((List.range (min us.length d.length)).all e&&us.length==d.length)=jq1:=by
 intro ks ls us d p q g;have l:=Ef p;have i:=Ef q;rw[<-l,<-i]
 by_cases c:ks.length=ls.length
 ·by_cases f:ks=ls
  ·subst f;simp only[Nat.min_self,beq_self_eq_true,Yal,decide_true];rw[EW];intro j b;rw[Ep]at b;rw[g j ks[j] ks[j] (Nj b) (Nj b)];simp
  ·have:jq1=false:=decide_eq_false λz=>f (Tr.t.inj z);rw[this,Bool.and_eq_false_iff];left;have:∃j,ks[j]?≠kN:=F6 λz=>f (E8 λj=>F6 λy=>z (fF j y));obtain⟨j,b⟩:=this;have a:j<ks.length:=F6 λz=>b (by rw[NW (hP z),NW (Nn (cL c) (hP z))]);rw[LN];refine⟨j,Ep.mpr aH,?_⟩;rw[g j ks[j] ls[j] (Nj a) (Nj (Ni a (Nt c)))];intro z;rw[decide_eq_true_eq]at z;exact b (by rw[Nj a,Nj (Ni a (Nt c)),z])
 ·have m:(ks.length==ls.length)=false:=beq_eq_false_iff_ne.mpr c;rw[m,Ip];exact(decide_eq_false λz=>c (by rw[Tr.t.inj z])).symm
open SeqAt in
theorem QqW{s:Shared}:∀(n:Nat) (A:Around),Hk->∀(x y:Tr) (u v:Value),Bu x u->Bu y v->EqAt A s u v (decide (x=y))
 |0,_,_,_,_,_,_,c,_=>c.elim
 | n+1,A,f,.i a,.i b,u,v,c,d=>by
  have hd:decide (Tr.i a=Tr.i b)=(a==b):=by
   show AW z a b
   ·rw[decide_eq_false λq=>z (Tr.i.inj q)];show zt1 z
  rw[hd]
  rcases c with⟨t,rfl⟩|⟨p,rfl,rfl⟩<;>rcases d with⟨h,rfl⟩|⟨q,rfl,rfl⟩
  ·exact EqAt.int_int a t b h
  ·exact EqAt.int_bool a t q
  ·exact EqAt.bool_int p b h
  ·have:=EqAt.bool_bool (A:=A) (s:=s) p q;cases p<;>cases q<;>exact this
 |n+1,A,f,.i a,.s b,u,v,c,d=>by
  show aN h d;rw[decide_eq_false iE]
  show Aq c p
  ·exact EqAt.int_str a t b h
  ·exact EqAt.bool_str p b h
 |n+1,A,f,.i a,.t ks,u,v,c,d=>by
  show Tb d;rw[decide_eq_false iE]
  show Aq c q
  ·exact EqAt.int_tuple a t p (Np cJ f)
  ·exact EqAt.bool_tuple q p (Np cJ f)
 |n+1,A,f,.s b,.i a,u,v,c,d=>by
  show aN h c;rw[decide_eq_false iE]
  show Aq d p
  ·exact EqAt.str_int b h a t
  ·exact EqAt.str_bool b h p
 | n+1,A,f,.s a,.s b,u,v,c,d=>by
  show aN t c;show aN h d
  have hd:decide (Tr.s a=Tr.s b)=(a==b):=by
   show AW z a b
   ·rw[decide_eq_false λq=>z (Tr.s.inj q)];show zt1 z
  rw[hd];exact EqAt.str_str a t b h
 |n+1,A,f,.s b,.t ks,u,v,c,d=>by
  show Tb d;show aN t c;rw[decide_eq_false iE];exact EqAt.str_tuple b t p (Np cJ f)
 |n+1,A,f,.t ks,.i a,u,v,c,d=>by
  show Tb c;rw[decide_eq_false iE]
  show Aq d q
  ·exact EqAt.tuple_int a t p (Np cJ f)
  ·exact EqAt.tuple_bool q p (Np cJ f)
 |n+1,A,f,.t ks,.s b,u,v,c,d=>by
  show Tb c;show aN t d;rw[decide_eq_false iE];exact EqAt.tuple_str b t p (Np cJ f)
 | n+1,A,f,.t ks,.t l,u,v,c,d=>by
  obtain⟨ad,g,rfl,p,q⟩:=id c;obtain⟨S,m,rfl,J,F⟩:=id d
  by_cases B:ad=S
  ·subst B;have:=Qd0 _ _ _ c d;rw[this,decide_eq_true rfl];exact EqAt.same _
  ·refine EqAt.of_refs B ?_;have P:=QqW (s:=s) n A.in1 (by show mG+n<cLine;omega)
   have I:=RcAt.tuples (A:=A) (s:=s) (e:=λj=>match ks[j]?,l[j]? with|dY x,sO y=>decide (x=y)|_,_=>false) p J (Np cJ f) (λj D C=>by
    have M:=Ef q;have L:=Ef F;have O:j<ks.length:=nA M D
    have N:j<l.length:=nA L C
    obtain⟨x,c⟩:∃x,ks[j]?=sO x:=⟨ks[j],Nj O⟩
    obtain⟨y,d⟩:∃y,l[j]?=sO y:=⟨l[j],Nj N⟩
    obtain⟨u,o,G⟩:=YE q c;obtain⟨t,r,H⟩:=YE F d;rw[c,d]
    have R:g[j]=u:=by
     rw[N1,NH D]at o;exact N2 o
    have Q:m[j]=t:=by
     rw[N1,NH C]at r;exact N2 r
    rw[R,Q]
    exact P x y u t G H)
   have:=QlT (e:=λj=>match ks[j]?,l[j]? with|dY x,sO y=>decide (x=y)|_,_=>false) q F (λj x y D C=>by simp only[D,C]);rw[NP,NP]at this;rw[this]at I;exact I
theorem Qea{A:Around}{s:Shared}:∀(n m:Nat) (k:Tr) (v:Value) (Q:Bool->eA),Bu k v->n<=m->Q true s->wpAny aT A (eqIsQuiet m v) Q E s
 |0,_,_,_,_,x,_,_=>x.elim
 |n+1,m,.i k,v,Q,x,_,h=>by
  show Aq x b
  ·show zI8
  ·show zI8
 |n+1,m,.s k,v,Q,x,_,h=>by
  show aN t x;show zI8
 |n+1,0,.t ks,v,Q,x,z,h=>aQ
 | n+1,m+1,.t ks,v,Q,x,z,h=>by
  obtain⟨a,e,rfl,⟨o,g,B,l,hd⟩,q⟩:=x;have j:s.TypeIs (aD a) "tuple":=⟨o,g,B⟩
  unfold eqIsQuiet;refine Na (Dy j F.slot_tuple_eq.lookup ?_);show wpAny _ _ (isInstance (aD a) yG>>=_) _ _ s;refine Na (FR j isSubtype_tuple_tuple ?_);show SK;refine Na (FH g hd ?_);show tX;show wpAny _ _ (forIn e _ _) _ _ s;rw[<-YaA];refine IM _ (λrest r d=>r.1=nO/\d=s/\∃c,Paired (IsT s.heap n) c rest) _ ?_ ?_ _ _ ⟨rfl,rfl,ks,q⟩
  ·rintro v rest r d ⟨f,rfl,c,y⟩
   cases y with
   |cons u p=>
    refine Na (Qea n m _ _ _ u aH ?_);show SK;exact Nh ⟨rfl,rfl,_,p⟩
  ·rintro⟨D,C⟩ d ⟨f,rfl,_⟩
   show yP f;exact Nh h
#print "-"
noncomputable def QA(prog:Program)(w:World):HeapKind prog w Tr where
 is:=λh k a=>IsT h 8 k (aD a)
 hash:=hN w 8
 draws:=dN 8
 room:=λA=>A.units+8<cLine
 inj:=λc b=>Qd0 _ _ _ c b
 keeps:=λx g hd f=>Qd6 g hd f _ _ x
 pyHash:=λd e h=>Qjk 8 _ d _ _ _ _ e h
 eqBool:=λd c b h=>QqW 8 _ d _ _ _ _ c b _ _ _ _ h
 quiet:=λe h=>Qea 8 8 _ _ _ e c8 h
noncomputable def kV:Key->V
 |eH i=>aC i
 |k6 x=>c4 x
inductive HO where
 /-- a list -/
 |lst (xs:bA)
 /-- a tuple (never changes) -/
 |tup (xs:bA)
 /-- a dict whose keys are ints and texts;one whose keys are tuples of ints and texts (the empty one is both) -/
 |dK (kvs:dM V)|dT (kvs:gB)
 /-- a set of ints: its members,its size -/
 |set (S:Int->Bool) (n:Nat)
 /-- an instance of the class at C,its dict at dx,its attributes -/
 |ins (C dx:Addr) (fs:HD)
 /-- the dict of the instance at x -/
 |own (x:Addr)
 /-- the dict of an exception -/
 |xd (fs:HD)
 /-- a bound method,f of x -/
 |met (f x:Addr)
 /-- a range object lo,lo+1,.. below hi -/
 |rng (lo hi:Int)
 /-- a thing that is known to the object (the script;a dict while a loop walks it): read,never written while it is so -/
 |frz (o:Obj) (u:HO)
 /-- a QkP object's table -/
 |tbl (ps:eN)
 /-- any other thing,by what is true of its one object (a def of one's own: SetO a S n:=HO.ext λh=>..) -/
 |ext (φ:vI)
noncomputable abbrev Hp:=Addr->zi2
noncomputable def upd(H:Hp)(a:Addr)(o:HO):Hp:=λb=>if b=a then sO o else H b
theorem VX{H:Hp}{a:Addr}{o:HO}:upd H a o a=sO o:=by unfold upd;rw[fO]
theorem QZ{H:Hp}{a b:Addr}{o:HO}(h:b≠a):upd H a o b=H b:=by unfold upd;rw[bQ h]
theorem V3{H:Hp}{a b:Addr}{o:HO}(h:NE)(h':hH):a≠b:=by
 intro e;subst e;show bK h h'
section
variable(P:Program)(w:World)
noncomputable def ObjOk(H:Hp)(h:Heap)(a:Addr):HO->Prop
 |.lst xs=>rR/\∃(its:aX) (n:Nat),q9/\cQ a=sO { cls:=dE,data:=uG }
 |.tup xs=>rR/\∃its:aX,q9/\IsTup h a its.toArray
 |.dK kvs=>CQ/\xK/\∃e,p5 e/\Tp h e
 | .dT kvs=>CQ/\xK/\∃xs:uC,
   Paired (λ(p:Tr×Addr×V) (q:Tr×Addr×Value)=>zY7) kvs xs /\
   ∃o es ep,cQ a=sO o/\o.ExactDict/\Ss/\es.toList=xs.map (entryOfKey (QA P w))/\(xs.map (·.1)).Nodup/\ep=es.size
 |.set S n=>h.SetOf (intKind P w) a S n
 | .ins C c fs=>H c=qV a/\fs.length<=1000/\c≠a/\cQ a=sO (OA C c) /\
   ∃b,h.Ns1 c b/\(∀f,zs4)/\PySem.Within b (fs.map (·.1))
 |.own _=>∃o,cQ a=sO o
 |.xd fs=>∃b,h.Ns1 a b/\∀f,zs4
 |.rng lo g=>∃t u v,cQ a=sO { cls:=Bc,data:=PH g }
 |.frz o u=>cQ a=sO o/\ObjOk H h a u
 |.tbl ps=>cQ a=zo9
 |.met f x=>cQ a=sO (LP (aD f) (aD x))
 |.ext d=>d h/\(∃o,cQ a=sO o)/\∀h1 h2:Heap,d h1->(∀o,h1.get? a=sO o->h2.get? a=sO o)->d h2
def HOk(H:Hp)(h:Heap):Prop:=∀a o,NE->Ht o
#print "-"
section
variable{P:Program}{w:World}{H H':Hp}{h h':Heap}{a:Addr}{o:HO}
theorem ObjOk.lt(x:Ht o):TU:=by
 cases o with
 |lst c=>obtain⟨_,_,_,_,e⟩:=x;exact NC e
 |tup c=>obtain⟨_,_,_,p⟩:=x;exact p.lt
 |dK b=>show ji4
 |dT b=>show ji4
 |set S n=>obtain⟨o,_,_,_,e,_⟩:=x;exact NC e
 |ins C i fs=>obtain⟨_,_,_,e,_⟩:=x;exact NC e
 |own y=>obtain⟨_,e⟩:=x;exact NC e
 |xd fs=>obtain⟨_,⟨_,_,_,e,_⟩,_⟩:=x;exact NC e
 |rng lo g=>obtain⟨_,_,_,e⟩:=x;exact NC e
 |frz ob u=>obtain⟨e,_⟩:=x;exact NC e
 |tbl ps=>exact NC (show cQ a=sO _ from x)
 |met f y=>exact NC (show cQ a=sO _ from x)
 |ext d=>obtain⟨_,⟨_,e⟩,_⟩:=x;exact NC e
theorem Paired.mapP{g e:Type}{F G:g->e->Prop}{d:cE g}{c:cE e}(p:Paired F d c)(f:∀a b,F a b->G a b):Paired G d c:=
 zZ0
theorem ObjOk.stay(x:Ht o)(k:∀b u,(b=a\/H b=qV a)->cQ b=sO u->fU h'=sO u)
  (D:∀b,H b=qV a->H' b=qV a) (G:∀b xs,H b=sO mF->H' b=sO mF):ObjOk P w H' h' a o:=by
 induction o with
 |lst xs=>show c7 z j n r e x;exact⟨z,j,n,r,k _ _ fA e⟩
 |tup xs=>obtain⟨z,j,r,ob,e,c⟩:=x;exact⟨z,j,r,ob,k _ _ fA e,c⟩
 |dK s=>obtain⟨z,y,A,r,ob,g,i,e,c⟩:=x;exact⟨z,y,A,r,ob,g,i,k _ _ fA e,c⟩
 |dT s=>
  obtain⟨z,y,xs,r,ob,g,i,e,c⟩:=x;exact⟨z,y,xs,r,ob,g,i,k _ _ fA e,c⟩
 |set S n=>obtain⟨ob,g,i,t,e,c⟩:=x;exact⟨ob,g,i,t,k _ _ fA e,c⟩
 |ins C J fs=>
  obtain⟨d,z,ne,e,m,⟨l,g,i,E,c⟩,r⟩:=x;exact⟨D _ d,z,ne,k _ _ fA e,m,⟨l,g,i,k _ _ (.inr d) E,c⟩,r⟩
 |own y=>obtain⟨ob,e⟩:=x;exact⟨ob,k _ _ fA e⟩
 |xd fs=>obtain⟨m,⟨l,g,i,e,c⟩,r⟩:=x;exact⟨m,⟨l,g,i,k _ _ fA e,c⟩,r⟩
 |rng lo I=>show iO t u v e x;exact⟨t,u,v,k _ _ fA e⟩
 |frz ob u B=>show lO e q x;exact⟨k _ _ fA e,B q⟩
 |tbl ps=>
  have e:cQ a=zo9:=x;show oX a=zo9;exact k a _ fA e
 |met f y=>
  have e:cQ a=sO (LP (aD f) (aD y)):=x;show oX a=sO (LP (aD f) (aD y));exact k a _ fA e
 |ext F=>obtain⟨p,⟨o,e⟩,st⟩:=x;exact⟨st _ _ p λo q=>k _ _ fA q,⟨o,k _ _ fA e⟩,st⟩
theorem HOk.lt(x:qA)(e:NE):TU:=(x a o e).lt
theorem HOk.fresh(x:qA)(e:zG7):H a=nO:=by
 cases q:H a with
 |none=>rfl
 |some u=>exact absurd (Ni (x.lt q) e) wO
theorem HOk.kept(x:qA)(k:∀b u,lP b u):HOk P w H h':=λa o e=>
 (x a o e).stay (λb u _ q=>k b u q) (λ_ q=>q) (fR q)
theorem HOk.laid(x:qA)(k:∀b u,lP b u)(g:zG7)(new:ObjOk P w (nM a) h' a o):HOk P w (nM a) h':=λb u e=>by
 have d:=x.fresh g
 show zp3 f a e
 ·rw[QZ f]at e;exact(x b u e).stay (λc v _ q=>k c v q) (λc q=>CS q d) λc i q=>CS q d
#print "-"
def Rd(H:Hp)(a:Addr)(u:HO):Prop:=H a=sO u\/∃o,H a=HE
theorem Rd.of{H:Hp}{a:Addr}{u:HO}(h:H a=sO u):Rd H a u:=eH h
theorem Rd.ok{P:Program}{w:World}{H:Hp}{h:Heap}{a:Addr}{u:HO}(r:Rd H a u)(x:qA):Ht u:=by
 rcases r with r|⟨o,r⟩
 ·exact x a u r
 ·obtain⟨_,q⟩:=x a _ r;exact q
noncomputable def Mut:zi2->Prop
 |some zT=>True
 |some (.dK _)=>True
 |some (.dT _)=>True
 |some (.set _ _)=>True
 |some (.ins _ _ _)=>True
 |some (.ext _)=>True
 |_=>False
section
variable{P:Program}{w:World}{H:Hp}{h h':Heap}{x e:Addr}{o':HO}
theorem HOk.write(ok:qA)(i:Mut (H x))(o:e=x\/H e=qV x)(k:∀b u,b≠e->cQ b=sO u->fU h'=sO u)(m:∃u,oX e=sO u)
  (new:ObjOk P w (upd H x o') h' x o'):HOk P w (upd H x o') h':=λb u q=>by
 have d:∀c y,H c=qV y->c≠x:=λc y r z=>zw0 r i
 have f:∀c g,H c=sO (.tup g)->c≠x:=λc g r z=>zw0 r i
 show zp3 l x q
 ·rw[QZ l]at q
  by_cases a:b=e
  ·have n:H b=qV x:=by
    show hZ o z
    ·exact absurd (dX a z) l
    ·rw[a];exact z
   show bK q n;show lO v p m;exact⟨v,nA a p⟩
  ·refine(ok b u q).stay (zI9 j r) (λc r=>by rw[QZ (d c b r)];exact r) λc g r=>by rw[QZ (f c g r)];exact r
   rcases j with rfl|j
   ·exact a
   ·rintro rfl
    show hZ o z
    ·exact d c b j z
    ·show bK j z;exact l rfl
#print "-"
structure Un(fs ex:gO)(H H':Hp)(h h':Heap):Prop where
 keep:∀b o,cQ b=sO o->hH->b∉fs->b∉ex->fU h'=sO o
 slot:∀b o,cQ b=sO o->hH->b∈fs->b∉ex->∃sl,fU h'=sO { o with slots:=sl }
 free:∀b o,cQ b=sO o->hH->b∉ex->H' b=nO
 there:∀b o,cQ b=sO o->b∉ex->∃o',fU h'=sO o'
 tups:∀b xs,H b=sO mF->H' b=sO mF
 frzs:∀b o u,H b=HE->H' b=HE
 tbls:zQ2
section
variable{fs fs' ex ex':gO}{H H1 H2:Hp}{h h1 h2 h':Heap}{a x e:Addr}{o:HO}
theorem Un.any(u:Un fs ex H H1 h h1){b:Addr}{ob:Obj}(q:cQ b=sO ob)(n:hH)(c:b∉ex):∃f,fU h1=sO { ob with slots:=f }:=by
 by_cases d:b∈fs
 ·exact u.slot b ob q n d c
 ·exact⟨ob.slots,u.keep b ob q n d c⟩
theorem Un.kept(k:∀b u,lP b u):Un fs ex H H h h':=
 ⟨λb ob q _ _ _=>k b ob q,λb ob q _ _ _=>⟨ob.slots,k b ob q⟩,λ_ _ _ n _=>n,λb ob q _=>⟨ob,k b ob q⟩,fR q,λ_ _ _ q=>q,λ_ ps q=>⟨#[],vE q⟩⟩
theorem Un.refl:Un fs ex H H h h:=Un.kept (fR q)
theorem Un.laid(k:∀b u,lP b u)(f:zG7)(c:H a=nO):Un fs ex H (nM a) h h' where
 keep:=λb u q _ _ _=>k b u q
 slot:=λb u q _ _ _=>⟨u.slots,k b u q⟩
 free:=λb u q n _=>by rw[QZ (NB (Ni (NC q) f))];exact n
 there:=λb u q _=>⟨u,k b u q⟩
 tups:=λb d q=>CS q c
 frzs:=λb u d q=>CS q c
 tbls:=λb ps q=>⟨#[],by rw[QZ (V3 q c),q];simp⟩
theorem Un.write(d:Mut (H x))(m:e=x\/H e=qV x)(k:∀b u,b≠e->cQ b=sO u->fU h'=sO u)(g:∃u,oX e=sO u):Un fs ex H (nM x) h h':=by
 have i:∀b,hH->b≠x:=λb n z=>zw0 n d
 have j:∀b,hH->b≠e:=λb n z=>by
  subst z
  show hZ m r
  ·exact i b n r
  ·show bK n r
 have f:∀b u,H b=sO u->¬Mut (sO u)->b≠x:=λb u q nm z=>by subst z;rw[q]at d;exact nm d
 refine⟨λb u q n _ _=>k b u (j b n) q,λb u q n _ _=>⟨u.slots,k b u (j b n) q⟩,λb u q n _=>by rw[QZ (i b n)];exact n,λb u q _=>?_,
  λb l q=>by rw[zx0];exact q,λb u l q=>by rw[zx0];exact q,λb ps q=>⟨#[],by rw[zx0,q];simp⟩⟩
 by_cases c:b=e
 ·subst c;exact g
 ·exact⟨u,k b u c q⟩
#print "-"
noncomputable def trk(h:Heap)(H:Hp):gO:=(List.range h.objs.size).filter λa=>(H a).isSome
noncomputable def Qiy(h:Heap)(H:Hp):Heap:=PySem.W.hideAll h (trk h H)
theorem Qfh(h:Heap)(H:Hp):(Qiy h H).objs.size=h.objs.size:=PySem.W.hideAll_size _ _
theorem QgP{h:Heap}{H:Hp}{b:Addr}{o:Obj}(e:cQ b=sO o)(n:hH):zC4=sO o:=
 PySem.W.hideAll_get _ e λa=>by
  have q:(H b).isSome=true:=(DT.mp a).2;show Cf n q
theorem Qka{h:Heap}{H:Hp}{b:Addr}{o:Obj}(e:zC4=sO o):cQ b=sO o/\hH:=by
 have a:cQ b=sO o:=PySem.W.of_hideAll (trk h H) e;show tL a;cases q:H b with
 |none=>rfl
 |some x=>
  have c:b∈trk h H:=DT.mpr ⟨Ep.mpr (NC a),hY q⟩;have z:zC4=nO:=PySem.W.hideAll_none (trk h H) c;show bK z e
structure Mod(K:Ng)(mg:eK)(base:Heap):Prop where
 kin:K.In base
 glob:base.Ns mainGlobals mg
 blt:∃mb,base.Ns builtinsNs mb/\∀x:Str,pP->mb x=pQ
 nolimit:base.NoLimit
structure Cx where
 prog:Program
 w:World
 K:Ng
 mg:eK
 base:Heap
 A:Around
 N:aO
 s₀:Shared
 H₀:Hp
 env:Env
 outer:kI
 stack:kI
 ex:gO
 fn:Str->Bool
 calm:Bool
 pn:bT
 xe:bJ
noncomputable def frs(l:kI):gO:=l.filterMap (·.frame)
noncomputable abbrev Cx.fs(X:Cx):gO:=frs X.outer
def Vis(sc:Scope)(x:Str):Prop:=uK=qP\/uK=kJ\/uK=mK
def Loc(sc:Scope)(x:Str):Prop:=uK=qP\/uK=kJ
def Qtz(env:Env)(h:Heap)(m:eK)(x:Str)(u:Value):Prop:=
 (MC x=qP/\m x=sO u)\/((MC x=kJ\/MC x=mK)/\∃c,env.cells.lookup x=sO c/\h.IsCell c (sO u))
structure Cx.Ok(X:Cx):Prop where
 mod:Mod X.K X.mg X.base
 kind:X.env.scope.kind=.function
 glob:X.env.globals=mainGlobals
 blt:X.env.builtins=builtinsNs
 above:X.s₀.heap.objs.size<=X.env.locals
 inj:∀x y c,jK->zC5 y=sO c->x=y
 has:∀x,(Hu=kJ\/Hu=mK)->∃c,jK
 cab:∀x c,X.fn x=true->jK->X.s₀.heap.objs.size<=c
 hd:fH->X.A.handled=nO
 frames:X.A.frames=sO X.stack
 stk:X.stack=X.outer\/(X.stack=X.env::X.outer/\X.env.frame=sO X.env.locals)
 exf:∀b∈X.ex,uM/\∀x c,jK->c≠b
 bs:∀b o,C'->zt2/\X.H₀ b=nO
 bsz:X.base.objs.size<=X.s₀.heap.objs.size
 noex:∀b o,C'->b∉X.ex
 exfs:∀b∈X.ex,b∉X.fs
 funs:X.s₀.heap.FunFrames X.base X.outer
 frf:∀b∈X.fs,X.H₀ b=nO
structure Inv(X:Cx)(pins:bT)(σ:za7 V)(H:Hp)(s:Shared):Prop where
 ok:X.Ok
 os:s.os=X.s₀.os
 bare:M0 s
 base:Un X.fs X.ex X.H₀ H X.s₀.heap s.heap
 loc:∃m,jq2/\∀(i:Nat) (x:Str) (v:V),l7->σ[i]?=sO jD->H9->∃u,cU v/\Qtz X.env s.heap m x u
 cell:∀x c,jK->∃v,s.heap.IsCell c v
 free:H X.env.locals=nO
 freeC:∀x c,jK->H c=nO
 pin:∀p∈Mo,zN4
 hok:HOk X.prog X.w H s.heap
 len:σ.length=X.N.length
section
variable{X:Cx}{pins:bT}{σ:za7 V}{H H':Hp}{s:Shared}{h':Heap}
theorem Cx.Ok.nofr(ok:X.Ok){b:Addr}{o:Obj}(e:C'):b∉X.fs:=λa=>by
 have:=(ok.funs.mem a).1;show lX e
theorem Inv.bs(I:bW):∀b o,C'->c9 s b=sO o/\hH:=λb o e=>
 ⟨I.base.keep b o (I.ok.bs b o e).1 (I.ok.bs b o e).2 (I.ok.nofr e) (I.ok.noex b o e),I.base.free b o (I.ok.bs b o e).1 (I.ok.bs b o e).2 (I.ok.noex b o e)⟩
theorem Inv.bk(I:bW):∀b o,C'->c9 s b=sO o:=zA3 I
theorem Inv.mod(I:bW):Mod X.K X.mg X.base:=I.ok.mod
theorem Inv.kIn(I:bW):X.K.In s.heap:=I.ok.mod.kin.keeps I.bk
theorem Inv.lt(I:bW):X.env.locals<s.heap.objs.size:=let⟨_,a,_⟩:=I.loc;a.lt
theorem Inv.sz(I:bW):X.s₀.heap.objs.size<=s.heap.objs.size:=Nn I.ok.above (Nw I.lt)
theorem Inv.nofs(I:bW){a:Addr}(h:s.heap.objs.size<=a):a∉X.fs:=λc=>by
 obtain⟨_,o,b,_⟩:=I.ok.funs.mem c;exact absurd (Ni (NC b) (Nn I.sz h)) wO
theorem Inv.cne(I:bW):∀x c,jK->c≠X.env.locals:=λx c e z=>by
 obtain⟨v,o,d,hd⟩:=BF I;obtain⟨m,⟨f,g,h,a,b,_⟩,_⟩:=I.loc;rw[z,a]at d;cases d;rw[b]at hd;cases hd
theorem Inv.funs(I:bW):s.heap.FunFrames X.base X.outer:=by
 have all:∀(l:kI),(∀b∈frs l,b∈X.fs)->X.s₀.heap.FunFrames X.base l->s.heap.FunFrames X.base l:=by
  intro l
  induction l with
  |nil=>intro _ _;trivial
  |cons n r f=>
   intro d j;obtain⟨m,⟨L,o,a,i,h,hd⟩,g⟩:=j;have hL:L∈X.fs:=d L (by unfold frs;rw[F3,a];exact NF);obtain⟨p,e⟩:=I.base.slot L o h (I.ok.frf L hL) hL λz=>I.ok.exfs L z hL;exact⟨m,⟨L,_,a,i,e,hd⟩,f (λb c=>d b (by unfold frs;rw[F3,a];exact NA _ c)) g⟩
 exact all X.outer (λ_ c=>c) I.ok.funs
theorem Inv.stack(I:bW):s.heap.FunFrames X.base X.stack:=by
 rcases I.ok.stk with e|⟨e,b⟩
 ·rw[e];exact I.funs
 ·rw[e];obtain⟨m,a,_⟩:=I.loc;refine .cons (by rw[I.ok.kind];decide) b a ?_ I.funs;exact Heap.get?_none_of_le (Nn I.ok.bsz I.ok.above)
theorem Inv.stkSub(I:bW):∀b∈frs X.stack,b∈X.env.locals::X.fs:=λb a=>by
 rcases I.ok.stk with e|⟨e,c⟩
 ·rw[e]at a;exact NA _ a
 ·rw[e]at a;unfold frs at a;rw[F3,c]at a;exact a
theorem Inv.stkFree(I:bW):∀b∈frs X.stack,hH:=λb a=>by
 rcases NM.mp (I.stkSub b a)with e|a
 ·rw[e];exact I.free
 ·obtain⟨_,o,c,_⟩:=I.ok.funs.mem a;exact I.base.free b o c (I.ok.frf b a) λz=>I.ok.exfs b z a
theorem Inv.step{g':B4}{t':Nat}{d':Drawn}{ch:gO}(I:bW)
  (g:∀b∈ch,PB/\uM/\(∀x c,jK->c≠b)/\∀p∈Mo,p.1≠b)
  (keep:∀b o,uM->b∉X.fs->wS->c9 s b=sO o->hH->fU h'=sO o)
  (slot:∀b o,uM->b∈X.fs->wS->c9 s b=sO o->hH->∃L,fU h'=sO { o with slots:=L }) (free:∀b o,wS->c9 s b=sO o->hH->H' b=nO)
  (there:∀b o,wS->c9 s b=sO o->∃D,fU h'=sO D)
  (B:∀b xs,H b=sO mF->H' b=sO mF) (F:∀b o u,H b=HE->H' b=HE) (C:zQ2)
  (ns:∀m,jq2->h'.Ns X.env.locals m) (M:Tc H') (U:AllBare g') :
  Inv X pins σ H' { s with heap:=h',gens:=g',drawn:=d',toks:=t' }:=by
 have E:∀b o,zt2->uM:=λb o e=>NB (Ni gV I.ok.above)
 have j:∀b o,zt2->b∉X.ex->wS:=λb o e a y=>by
  rcases(g b y).1 with z|z
  ·exact a z
  ·exact absurd (Ni gV z) wO
 have h:∀x c,jK->∀v,s.heap.IsCell c v->h'.IsCell c v:=λx c e v ⟨o,A,hd⟩=>by
  have f:c∉ch:=λz=>jt5
  by_cases P:c∈X.fs
  ·obtain⟨L,q⟩:=slot c o (I.cne x c e) P f A zC6;exact⟨_,q,hd⟩
  ·exact⟨o,keep c o (I.cne x c e) P f A zC6,hd⟩
 refine⟨I.ok,I.os,U,⟨zf1 y a,zf1 y a,λb o e n a=>?_,eE b o e a,λb xs e=>B b xs (I.base.tups b xs e),λb o xs e=>F b o xs (I.base.frzs b o xs e),λb ps e=>?_⟩,?_,aM x c e,?_,aM x c e,bG p O,M,I.len⟩
 ·exact keep b o (rE E) y za8 (zD9 y a) zs5
 ·obtain⟨L,t⟩:=zE0 y a;obtain⟨J,G⟩:=slot b _ (rE E) y za8 t zs5;show k5 J G
 ·show Sk D t a;exact free b D za8 t zs5
 ·show Sk D t a;exact there b D za8 t
 ·obtain⟨R,t⟩:=I.base.tbls b ps e;obtain⟨Q,G⟩:=C b _ t;exact⟨R++Q,by rw[G,Array.append_assoc]⟩
 ·obtain⟨m,S,T⟩:=I.loc;refine⟨m,ns m S,λi x v t G Y=>?_⟩;obtain⟨u,r,l⟩:=T i x v t G Y;show r4 u r
  rcases l with l|⟨k,c,e,z⟩
  ·exact eH l
  ·exact .inr ⟨k,c,e,h x c e _ z⟩
 ·obtain⟨v,z⟩:=BF I;exact⟨v,h x c e v z⟩
 ·obtain⟨m,⟨o,_,_,A,_⟩,_⟩:=I.loc;exact free _ o (λz=>(g _ z).2.1 rfl) A I.free
 ·obtain⟨v,o,A,hd⟩:=BF I;exact free c o (λz=>jt5) A zC6
 ·obtain⟨e,n,ne,N,d⟩:=I.pin p O;have f:p.1∉ch:=λz=>(g p.1 z).2.2.2 p O rfl;exact⟨keep p.1 p.2 ne N f e n,free p.1 p.2 f e n,ne,N,d⟩
theorem Inv.un{t':Nat}(I:bW)(u:Un X.fs [] H H' s.heap h')(c:Tc H'):Pv H':=by
 obtain⟨m,⟨o,v,x,h,r⟩,_⟩:=id I.loc;obtain⟨l,hL⟩:=u.any h I.free aB
 exact I.step (g':=s.gens) (d':=s.drawn) (ch:=[]) (λ_ z=>tU z) (λb o _ d _ e n=>u.keep b o e n d aB) (λb o _ d _ e n=>u.slot b o e n d aB) (λb o _ e n=>u.free b o e n aB) (λb o _ e=>u.there b o e aB) u.tups u.frzs u.tbls (λq j=>by
  show c7 p f g a i j;show bK h a
  exact⟨_,f,g,hL,i⟩) c I.bare
theorem Inv.call{g':B4}{t':Nat}{d':Drawn}{ch:gO}(I:bW)(u:Un (frs X.stack) ch H H' s.heap h')(g:Tc H')(t:AllBare g')
  (f:∀b∈ch,PB/\uM/\(∀x c,jK->c≠b)/\∀p∈Mo,p.1≠b) :
  Inv X pins σ H' { s with heap:=h',gens:=g',drawn:=d',toks:=t' }:=by
 obtain⟨m,⟨o,C,D,j,r⟩,_⟩:=id I.loc;obtain⟨y,hL⟩:=u.any j I.free λz=>(f _ z).2.1 rfl
 exact I.step (ch:=ch) f (λb o hL v a e n=>u.keep b o e n (λz=>(NM.mp (I.stkSub b z)).elim hL v) a) (λb o _ _ a e n=>u.any e n a) (λb o a e n=>u.free b o e n a) (λb o a e=>u.there b o e a) u.tups u.frzs u.tbls (λB q=>by
  show c7 A h i d l q;show bK j d
  exact⟨_,h,i,hL,l⟩) g t
theorem Inv.turned{t':Nat}{it:Addr}(I:bW)(k:∀b o,b≠it->fL)(g:H it=nO)(hL:it≠X.env.locals)
  (h1:it∈X.ex\/X.s₀.heap.objs.size<=it) (h2:∀x c,jK->c≠it) (j:∀p∈Mo,p.1≠it):Pv H:=by
 have d:∀b u,H b=sO u->b≠it:=λb u e z=>by rw[z,g]at e;cases e
 refine I.step (g':=s.gens) (d':=s.drawn) (ch:=[it]) (λb i=>?_) (λb o _ _ a e _=>k b o (λz=>a (eC z)) e) (λb o _ _ a e _=>⟨o.slots,k b o (λz=>a (eC z)) e⟩) (λ_ _ _ _ n=>n)
  (λb o a e=>⟨o,k b o (λz=>a (eC z)) e⟩) zJ0 (λ_ _ _ e=>e) (λb ps e=>⟨#[],vE e⟩) (λm h=>?_) (jZ b u e) I.bare
 ·have e:b=it:=cN i
  subst e;exact⟨h1,hL,h2,j⟩
 ·show c7 o l t f r h;exact⟨o,l,t,k _ o (EI hL) f,r⟩
 ·refine(I.hok b u e).stay (zI9 a q) (λ_ q=>q) (fR q)
  show hZ a z
  ·rw[z];exact d b u e
  ·exact d c _ z
theorem Inv.tok(I:bW)(t:Nat):Inv X pins σ H { s with toks:=t }:=I.un (h':=s.heap) (t':=t) Un.refl I.hok
theorem Inv.kept{t':Nat}(I:bW)(k:∀b u,c9 s b=sO u->fU h'=sO u):Pv H:=I.un (Un.kept k) (I.hok.kept k)
theorem Inv.laid{a:Addr}{o:HO}{t':Nat}(I:bW)(k:∀b u,c9 s b=sO u->fU h'=sO u)(c:s.heap.objs.size<=a)(new:ObjOk X.prog X.w (nM a) h' a o) :
  Inv X pins σ (nM a) { s with heap:=h',toks:=t' }:=I.un (Un.laid k c (I.hok.fresh c)) (I.hok.laid k c new)
theorem Inv.write{x e:Addr}{o:HO}{t':Nat}(I:bW)(c:Mut (H x))(d:e=x\/H e=qV x)(k:∀b u,b≠e->c9 s b=sO u->fU h'=sO u)(a:∃u,oX e=sO u)
  (new:ObjOk X.prog X.w (nM x) h' x o):Inv X pins σ (nM x) { s with heap:=h',toks:=t' }:=I.un (Un.write c d k a) (I.hok.write c d k a new)
theorem Inv.pins_of{a:bT}(I:bW)(h:∀p∈a,zN4):cI a σ:=
 ⟨I.ok,I.os,I.bare,I.base,I.loc,I.cell,I.free,I.freeC,λp b=>(NU.mp b).elim (λz=>I.pin p (Em _ z)) (h p),I.hok,I.len⟩
theorem Qcw{N:aO}(hN:N.Nodup){i j:Nat}{x:Str}(a:N[i]?=sO x)(b:N[j]?=sO x):i=j:=by
 show P4 f d a;show P4 e c b;exact(L9 hN).mp (d.trans c.symm)
theorem QaX{M:Model}{A:Around}{E:bJ}{i:Nat}{x:Str}{v:V}{u:Value}{Q:Unit->eA}(I:bW)(hN:X.N.Nodup)(S:l7)(B:nX)(r:cU v)
  (h:∀s',Inv X pins (σ.set i jD) H s'->(∃a,Heap.SameBut a s.heap s'.heap/\(a=X.env.locals\/zC5 x=sO a))->Q () s') (hf:nQ:=by show u6):wpAny M A (zE1 u) Q E s:=by
 obtain⟨m,hn,hl⟩:=id I.loc;have T:(X.env.scope.kind==.class ||(X.env.scope.kind==.module&&X.env.locals != X.env.globals))=false:=by rw[I.ok.kind];rfl
 have G:i<σ.length:=RR I S
 have cne:=I.cne
 have g:∀{a:Addr} {h':Heap},(∃o,c9 s a=sO o/\H a=nO)->lS a->Tc H:=λ{a h'} ha f b ob e=>by
  obtain⟨_,_,C⟩:=ha;refine(I.hok b ob e).stay (λc Z t q=>(f.2 c ?_).trans q) (λ_ q=>q) (fR q)
  rintro rfl
  rcases t with rfl|t
  ·show bK C e
  ·show bK C t
 show hZ B F
 ·refine wpAny_storeName_local F hn (λh' ab f=>?_) T;obtain⟨oL,_,_,aa,_⟩:=id hn;refine h _ ⟨I.ok,I.os,I.bare,zM7,⟨_,ab,λj y v' l D e3=>?_⟩,aM y c e,I.free,I.freeC,λp hp=>?_,g ⟨oL,aa,I.free⟩ f,by simpa using I.len⟩ ⟨_,f,wA⟩
  ·exact(f.2 b (NB (Ni gV I.ok.above))).trans (zD9 O B)
  ·obtain⟨sl,l⟩:=zE0 O B;exact⟨sl,(f.2 b (NB (Ni gV I.ok.above))).trans l⟩
  ·show Sk o' l B;exact⟨o',(f.2 b (NB (Ni gV I.ok.above))).trans l⟩
  ·by_cases J:j=i
   ·subst J;show bK S l;rw[EX G]at D;cases D;exact⟨u,r,.inl ⟨F,aP⟩⟩
   ·rw[EJ (EI J)]at D;obtain⟨u',r',q⟩:=hl j y v' l D e3;show r4 u' r'
    rcases q with⟨k,e⟩|⟨k,c,e,z⟩
    ·refine .inl ⟨k,?_⟩;have:y≠x:=λe=>J (Qcw hN l (e▸S));simp[this,e]
    ·exact .inr ⟨k,c,e,jt6⟩
  ·obtain⟨Z,z⟩:=I.cell y c e;exact⟨Z,jt6⟩
  ·obtain⟨e,n,ne,nf,d⟩:=I.pin p hp;exact⟨(f.2 p.1 ne).trans e,n,ne,nf,d⟩
 ·have L:X.fn x=true:=by
   rcases hf with z|z
   ·exact z
   ·show bK z F
  obtain⟨c,t⟩:=I.ok.has x (iQ F);obtain⟨Z,z⟩:=I.cell x c t;refine wpAny_storeName_cell I.ok.kind F t z (jZ h' Y f);obtain⟨oc,R,P⟩:=id z;refine h { s with heap:=h' } ⟨I.ok,I.os,I.bare,zM7,⟨m,hn.sameBut f (EI (cne x c t)),λj y v' l D e3=>?_⟩,aM y c' e,I.free,I.freeC,λp hp=>?_,g ⟨oc,R,I.freeC x c t⟩ f,by simpa using I.len⟩ ⟨c,f,k6 t⟩
  ·exact(f.2 b (NB (Ni gV zx2))).trans (zD9 O B)
  ·obtain⟨sl,l⟩:=zE0 O B;exact⟨sl,(f.2 b (NB (Ni gV zx2))).trans l⟩
  ·show Sk o' l B;exact⟨o',(f.2 b (NB (Ni gV zx2))).trans l⟩
  ·by_cases J:j=i
   ·subst J;show bK S l;rw[EX G]at D;cases D;exact⟨u,r,.inr ⟨eH F,c,t,Y⟩⟩
   ·rw[EJ (EI J)]at D;obtain⟨u',r',q⟩:=hl j y v' l D e3;show r4 u' r'
    rcases q with q|⟨k,c',e,z'⟩
    ·exact eH q
    ·refine .inr ⟨k,c',e,z'.sameBut f ?_⟩
     rintro rfl
     exact J (Qcw hN l (I.ok.inj _ _ _ e t▸S))
  ·by_cases U:c'=c
   ·subst U;show u0 Y
   ·obtain⟨w2,z2⟩:=I.cell y c' e;exact⟨w2,z2.sameBut f U⟩
  ·obtain⟨e,n,ne,nf,d⟩:=I.pin p hp;refine⟨(f.2 p.1 ?_).trans e,n,ne,nf,d⟩;intro q;rw[q,R]at e;have q':oc=p.2:=N2 e;exact d Z (uX q' P)
theorem GD{M:Model}{A:Around}{E:bJ}{i:Nat}{x:Str}{v:V}{u:Value}{Q:Unit->eA}(I:bW)(hN:X.N.Nodup)(c:l7)(b:nX)(r:cU v)
  (h:∀a,Inv X pins (σ.set i jD) H a->Q () a) (d:nQ:=by show u6):wpAny M A (zE1 u) Q E s:=
 QaX I hN c b r (λa e _=>h a e) d
theorem Inv.call'{a:Shared}{ch:gO}(I:bW)(l:a.os=s.os)(u:Un (frs X.stack) ch H H' s.heap a.heap)(d:HOk X.prog X.w H' a.heap)(m:M0 a)
  (f:∀b∈ch,PB/\uM/\(∀x c,jK->c≠b)/\∀p∈Mo,p.1≠b):p' H' a:=by
 show c7 h' h i g j a;have e:j=s.os:=l;subst e;exact I.call (g':=h) (t':=g) (d':=i) u d m f
#print "-"
noncomputable abbrev XK:=Value->qB->dQ
noncomputable abbrev St:=za7 V
noncomputable abbrev VK:=V->dQ
noncomputable abbrev TE:=St->fG
noncomputable abbrev TT:=St->Hp->(Bool->dQ)->Prop
noncomputable abbrev TA:=St->Hp->(bA->dQ)->Prop
structure Ends where
 nx:St->dQ
 rt:VK
 bk:St->dQ:=XL
 ct:St->dQ:=XL
noncomputable abbrev TS:=Ends->St->dQ
def EP(X:Cx)(a:bT)(σ:St)(Q:VK)(u:Value)(c:Shared):Prop:=∃v b,hQ a σ b c/\cU v/\Q v b
def TP(X:Cx)(a:bT)(σ:St)(Q:Bool->dQ)(b:Bool)(d:Shared):Prop:=∃c,hQ a σ c d/\Q b c
def AP(X:Cx)(a:bT)(σ:St)(Q:bA->dQ)(us:aX)(d:Shared):Prop:=∃b c,hQ a σ c d/\Vals b us/\Q b c
def SP(X:Cx)(b:bT)(D:Ends)(f:Flow)(d:Shared):Prop:=
 match f with
 |.next=>∃a c,hQ b a c d/\D.nx a c
 |.brk=>∃a c,hQ b a c d/\D.bk a c
 |.cont=>∃a c,hQ b a c d/\D.ct a c
 |.ret u=>∃v a c,hQ b a c d/\cU v/\D.rt v c
def PE(X:Cx)(e:Expr)(t:TE):Prop:=
 ∀(a:bT) (s:Shared) (b:St) (H:Hp) (Q:VK),cI a b->t b H Q->wpAny bU X.A (lA e) sH X.xe s
def PT(X:Cx)(e:Expr)(t:TT):Prop:=
 ∀(a:bT) (s:Shared) (b:St) (H:Hp) (Q:Bool->dQ),cI a b->t b H Q->wpAny bU X.A (isTrue e X.env (lA e)) zJ1 X.xe s
def PW(X:Cx)(e:Expr)(t:TT):Prop:=
 ∀(whole:Sem Value) (a:bT) (s:Shared) (b:St) (H:Hp) (Q:Bool->dQ),cI a b->t b H Q->wpAny bU X.A (isTrue e X.env whole) zJ1 X.xe s
theorem PW.pt{X:Cx}{e:Expr}{t:TT}(h:PW X e t):PT X e t:=h _
def PA(X:Cx)(es:fY)(t:TA):Prop:=
 ∀(pos:Pos) (a:bT) (s:Shared) (b:St) (H:Hp) (Q:bA->dQ),cI a b->t b H Q->wpAny bU X.A (spliced (backTo pos xQ)) (AP X a b Q) X.xe s
def PS(X:Cx)(st:Stmt)(t:TS):Prop:=
 ∀(a:bT) (s:Shared) (b:St) (H:Hp) (D:Ends),cI a b->t D b H->wpAny bU X.A (exec st X.env) (SP X a D) X.xe s
def PSs(X:Cx)(st:lB)(t:TS):Prop:=
 ∀(a:bT) (s:Shared) (b:St) (H:Hp) (D:Ends),cI a b->t D b H->wpAny bU X.A (execs st X.env) (SP X a D) X.xe s
theorem thn{b:Type}{t:Sem b}{Q Q':b->eA}{M:Model}{A:Around}{E:bJ}{s:Shared}(h:wpAny M A t Q E s)(c:∀a s,Q a s->Q' a s):wpAny M A t Q' E s:=N8 h c (fR x)
section
variable{X:Cx}
theorem bin{a b:Expr}{o n:TE}(D:PE X a o)(C:PE X b n){c:bT}{s:Shared}{σ:St}{H:Hp}{R:V->V->dQ}(I:cI c σ)(h:o σ H λx l=>n σ l λy d=>R x y d)
  {m:Type} {Q:m->eA} {f:Value->Value->Sem m}
  (B:∀v u i x y d,hQ c σ d i->mJ->cU y->R x y d->wpAny bU X.A P3 Q X.xe i) :
  wpAny bU X.A (lA a) (λv g=>wpAny bU X.A (lA b) (λu e=>wpAny bU X.A P3 Q X.xe e) X.xe g) X.xe s:=by
 refine thn (hC D c σ) (aM v p j);show c7 x l I1 r z j;refine thn (C c p σ l _ I1 z) (aM u i j);show c7 y d I2 q t j;exact B v u i x y d I2 r q t
noncomputable def QsU(i:Nat):TE:=λa H Q=>∃v,a[i]?=sO jD/\Q v H
noncomputable def tC(v:V):TE:=λ_ H Q=>Q v H
theorem Qox{i:Nat}{x:Str}{pos:Pos}(hN:l7)(n:H9)(hd:i4:=by decide)(f:jd7:=by decide):PE X mY (QsU i):=by
 show dU d j Q;obtain⟨v,e,h⟩:=h;obtain⟨m,o,q⟩:=I.loc;obtain⟨u,r,l⟩:=q i x v hN e n;have fin:EP X d j Q u s:=zE2
 rcases l with⟨b,p⟩|⟨b,c,g,a⟩
 ·exact wpAny_Name (Qq I.ok.kind b o p fin) hd
 ·show i7 b
  ·exact wpAny_Name (wpAny_loadName_cell I.ok.kind b g a fin) hd
  ·exact wpAny_Name (wpAny_loadName_free I.ok.kind b g a fin f) hd
theorem Qnv{i j pos}:PE X (.Constant cT j pos) (tC cT):=λ_ _ _ H _ I h=>wpAny_Constant_int ⟨aC i,H,hG,f9,h⟩
theorem Qpk{b j pos}:PE X jg8 (tC lF):=λ_ _ _ H _ I h=>Constant_bool ⟨.bl b,H,I,rfl,h⟩
theorem Qmx{j pos}:PE X jn1 (tC .non):=λ_ _ _ H _ I h=>Constant_none ⟨.non,H,I,rfl,h⟩
theorem Qn0{x j pos}:PE X (.Constant iX j pos) (tC iX):=λ_ _ _ H _ I h=>Calls.Constant_str ⟨c4 x,H,hG,f9,h⟩
def Gl(X:Cx)(x:Str):Prop:=Hu=sO .globalImplicit
theorem QbS{E:bJ}{a:bT}{s:Shared}{σ:St}{H:Hp}{x:Str}{u:Value}{pos:Pos}{Q:bJ}(I:cI a σ)(c:j1)(b:kO=sO u)(h:Q u s)
  (hd:i4:=by decide):wpAny bU X.A (eval mY X.env) Q E s:=
 LD I.ok.kind c (Calls.loadGlobal_global zT5 b h) hd
theorem VS{E:bJ}{a:bT}{s:Shared}{σ:St}{H:Hp}{x:Str}{u:Value}{pos:Pos}{Q:bJ}(I:cI a σ)(e:j1)(d:kO=nO)(b:pQ=sO u)(h:Q u s)
  (c:pP:=by decide) (hd:i4:=by decide):wpAny bU X.A (eval mY X.env) Q E s:=by
 obtain⟨i,g,f⟩:=I.mod.blt;exact LD I.ok.kind e (Calls.loadGlobal_builtin zT5 d (by rw[I.ok.blt];exact g.keeps I.bk) ((f x c).trans b) h) hd
theorem Qjy{x:Str}{v:V}{u:Value}{pos:Pos}(b:j1)(a:kO=sO u)(r:cU v)(hd:i4:=by decide):PE X mY (tC v):=
 λ_ _ _ H _ I h=>QbS I b a zE2 hd
theorem Qli{x:Str}{v:V}{u:Value}{pos:Pos}(d:j1)(c:kO=nO)(a:pQ=sO u)(r:cU v)(b:pP:=by decide)(hd:i4:=by decide):PE X mY (tC v):=
 λ_ _ _ H _ I h=>VS I d c a zE2 b hd
variable{a b:Expr}{ta tb:TE}{pos:Pos}
variable{tA tB':TT}{rest:fY}
noncomputable def Qq2(t u:TT):TT:=λd H Q=>t d H λc e=>if wT then u d e Q else Q false e
noncomputable def tOr(t u:TT):TT:=λd H Q=>t d H λc e=>if wT then Q true e else u d e Q
noncomputable def QsI(t:TT):TT:=λd H Q=>t d H λc e=>Q (!c) e
theorem Qki(g:MD):PW X jq3 tA:=by
 intro i d s f H Q I h;refine isTrue_and (thn (g d s f H Q I h) (aM c j e));cases c with
 |true=>exact isTrue_and_nil e
 |false=>exact e
theorem QmM(g:MD):PW X jt7 tA:=by
 intro i d s f H Q I h;refine isTrue_or (thn (g d s f H Q I h) (aM c j e));cases c with
 |false=>exact isTrue_or_nil e
 |true=>exact e
theorem QnM(m:MD)(l:PW X Rf tB'):PW X PX (Qq2 tA tB'):=by
 intro i d s e H Q I h;refine isTrue_and (thn (hC m d e) λc j ⟨g,I1,f⟩=>?_);cases c with
 |true=>exact l i d j e g Q I1 f
 |false=>exact⟨g,I1,f⟩
theorem Qpe(m:MD)(l:PW X jg9 tB'):PW X jd8 (tOr tA tB'):=by
 intro i d s e H Q I h;refine isTrue_or (thn (hC m d e) λc j ⟨g,I1,f⟩=>?_);cases c with
 |true=>exact⟨g,I1,f⟩
 |false=>exact l i d j e g Q I1 f
theorem Qoi(f:MD):PT X jt8 (QsI tA):=by
 show dU d e Q;exact isTrue_not (f d s e H (λc g=>Q (!c) g) I h)
noncomputable def Qp9(ta tb:TE):TE:=λd H Q=>ta d H λx e=>∃c,x=.bl c/\if wT then tb d e Q else Q za9 e
theorem Qoh{op}{t:TE}(h:PE X a t):PE X (.BoolOp op [a] pos) t:=λc s d H Q I hw=>BoolOp_one (h c s d H Q I hw)
theorem Qm0(n:t5)(m:PE X Rf tb):PE X PX (Qp9 ta tb):=by
 show dU d f Q;refine BoolOp_and (thn (hC n d f) (aM v j i));show c7 x g I1 l e i;obtain⟨c,rfl,e⟩:=e;cases l;refine Iy ?_;cases c with
 |true=>exact m d j f g Q I1 e
 |false=>exact⟨iL,g,I1,rfl,e⟩
noncomputable def tIf(t:TT)(ta tb:TE):TE:=λd H Q=>t d H λc e=>if wT then ta d e Q else tb d e Q
theorem QgM{c:Expr}(l:PT X c tA)(n:t5)(m:BK):PE X (.IfExp c a b pos) (tIf tA ta tb):=by
 show dU e f Q;refine wpAny_IfExp (thn (hC l e f) λd g ⟨j,I1,i⟩=>?_);cases d with
 |true=>exact n e g f j Q I1 i
 |false=>exact m e g f j Q I1 i
#print "-"
def SqL(K:Ng)(H:Hp)(a:Addr)(xs:bA):Prop:=
 Rd H a iK \/
  ∃(o:Obj) (b:eN) (n:Nat),lD a=sO o/\o.cls=dE/\o.dict=nO/\zS2
def SqT(K:Ng)(H:Hp)(a:Addr)(xs:bA):Prop:=
 Rd H a mF \/
  ∃(o:Obj) (b:eN) (n:Nat),lD a=sO o/\o.cls=i6/\zS2
noncomputable def Qti:Value->j2 V
 |.none=>sO .non
 |.bool b=>sO lF
 |.int i _=>sO cT
 |.str x _=>sO iX
 |.bytes b _=>sO (.byt b)
 |.float b _=>sO (.flt b)
 |aF a=>sO (aD a)
 |.type n=>sO (.ty n)
 |_=>nO
theorem RelV.abs{x:V}{u:Value}(r:cU x):Qti u=sO x:=by
 cases x with
 |non=>cases r;rfl
 |bl _=>cases r;rfl
 |int _=>show aN t r;rfl
 |str _=>show aN t r;rfl
 |byt _=>show aN t r;rfl
 |flt _=>show aN t r;rfl
 |ref _=>cases r;rfl
 |ty _=>cases r;rfl
theorem RelV.inj{x y:V}{u:Value}(r:cU x)(q:cU y):x=y:=N2 (r.abs.symm.trans q.abs)
theorem Vals.inj{xs ys:bA}{us:aX}(a:iI)(b:Vals ys us):xs=ys:=by
 induction a generalizing ys with cases b
 |nil=>rfl
 |cons r t e=>rename_i d c;rw[r.inj d,e c]
section
variable{X:Cx}{pins:bT}{σ:St}{H:Hp}{s:Shared}{a:Addr}{xs ys:bA}
theorem SqL.of{K:Ng}(h:H a=sO iK):MJ H:=.inl (iQ h)
theorem SqT.of{K:Ng}(h:H a=sO mF):BG H:=.inl (iQ h)
theorem Inv.list(I:bW)(h:Tt):∃its:aX,q9/\PlainL s.heap a its.toArray/\rR:=by
 rcases h with h|⟨o,its,n,d,f,hd,c,b,r⟩
 ·obtain⟨z,its,n,r,e⟩:=h.ok I.hok;exact⟨its,r,⟨_,n,e,rfl,rfl,rfl⟩,z⟩
 ·refine⟨its.toList,r,⟨o,n,I.kIn a o d,f,hd,cN c⟩,?_⟩;show cP e r;simp only[NP]at e;exact Nn (Nt e) b
theorem Inv.tuple(I:bW)(h:Tu):∃its:aX,q9/\IsTup s.heap a its.toArray/\rR:=by
 rcases h with h|⟨o,its,n,d,f,c,b,r⟩
 ·obtain⟨z,its,r,p⟩:=h.ok I.hok;exact⟨its,r,p,z⟩
 ·refine⟨its.toList,r,⟨o,I.kIn a o d,f,n,cN c⟩,?_⟩;show cP e r;simp only[NP]at e;exact Nn (Nt e) b
theorem Inv.list_inj(I:bW)(h:Tt)(h':Bp a):xs=ys:=by
 obtain⟨c,r,⟨o,n,e,_,_,d⟩,_⟩:=f0 h;obtain⟨b,i,⟨l,m,f,_,_,g⟩,_⟩:=f0 h';show bK e f;show zP1
 subst this;exact r.inj i
theorem Inv.tuple_inj(I:bW)(h:Tu)(h':yU a):xs=ys:=by
 obtain⟨c,r,⟨o,e,_,n,d⟩,_⟩:=eR h;obtain⟨b,i,⟨l,f,_,m,g⟩,_⟩:=eR h';show bK e f;show zP1
 subst this;exact r.inj i
#print "-"
noncomputable abbrev Cx.wish(X:Cx)(E:bJ):Cx:={ X with xe:=E }
noncomputable abbrev Cx.nox(X:Cx):Cx:=X.wish XL
theorem Cx.Ok.wish{X:Cx}(ok:X.Ok)(E:bJ):(X.wish E).Ok:=
 zM4
theorem Cx.Ok.unwish{X:Cx}{E:bJ}(ok:(X.wish E).Ok):X.Ok:=
 zM4
section
variable{X:Cx}{pins:bT}{σ:St}{H:Hp}{s:Shared}{E:bJ}
theorem Inv.wish(I:bW)(E:bJ):jl4:=⟨I.ok.wish E,I.os,I.bare,I.base,I.loc,I.cell,I.free,I.freeC,I.pin,I.hok,I.len⟩
theorem Inv.unwish(I:jl4):bW:=⟨I.ok.unwish,I.os,I.bare,I.base,I.loc,I.cell,I.free,I.freeC,I.pin,I.hok,I.len⟩
theorem SP.unwish{D:Ends}{f:Flow}{c:Shared}(h:SP (X.wish E) pins D f c):SP X pins D f c:=by
 cases f with
 |next=>show zo1
 |brk=>show zo1
 |cont=>show zo1
 |ret u=>obtain⟨v,a,b,I,r,q⟩:=h;exact⟨v,a,b,I.unwish,r,q⟩
theorem PSs.nox{st:lB}{t:TS}(h:PSs X.nox st t):PSs X st t:=λpins s σ H D I hw=>
 N8 (h pins s σ H D (I.wish _) hw) (λ_ _ q=>q.unwish) λ_ _ z=>sW z
#print "-"
section
variable{X:Cx}{st:Stmt}{rest:lB}{t u:TS}{e:Expr}{te:TE}{pos:Pos}
noncomputable def Qqn:TS:=λD a H=>D.nx a H
noncomputable def Qrb(t u:TS):TS:=λD a H=>t { D with nx:=u D } a H
theorem QkC:PSs X [] Qqn:=λ_ _ a H _ I h=>IU ⟨a,H,I,h⟩
theorem Qg9(h1:PS X st t)(h2:PSs X rest u):PSs X (st::rest) (Qrb t u):=by
 show dU a c D;refine wpAny_execs_cons (thn (h1 a s c H { D with nx:=u D } I h) (aM f d q));cases f with
 |next=>
  obtain⟨b,i,g,q⟩:=q;exact h2 a d b i D g q
 |ret v=>exact q
 |brk=>exact q
 |cont=>exact q
theorem Qkv(h1:PS X st t):PSs X [st] t:=by
 show dU a b D;refine wpAny_execs_cons (thn (h1 a s b H D I h) (aM f c q));cases f with
 |next=>exact IU q
 |ret v=>exact q
 |brk=>exact q
 |cont=>exact q
theorem Inv.quiet{a:bT}{σ:St}{H:Hp}{s:Shared}(I:cI a σ):interactive X.env=false:=by simp[interactive,I.ok.kind]
noncomputable def QpL(te:TE):TS:=λD a H=>te a H λ_ b=>D.nx a b
theorem QkI(g:vT)(f:swapsWith e nO pos.line X.env=sS:=by rfl):PS X (.Expr e pos) (QpL te):=by
 show dU a b D;refine wpAny_Expr_any (thn (hC g a b) (aM v j c)) I.quiet f;show c7 x i I1 l d c;exact⟨b,i,I1,d⟩
noncomputable def Qtn(te:TE):TS:=λD a H=>te a H D.rt
theorem QmC(g:vT):PS X (.Return (sO e) pos) (Qtn te):=by
 show dU a b D;refine wpAny_Return_some (thn (hC g a b) (aM v j c));show c7 x i I1 d f c;exact⟨x,b,i,I1,d,f⟩
noncomputable def QsP(c:TT)(t u:TS):TS:=λD a H=>c a H λb d=>if b=true then t D a d else u D a d
theorem Qp6{c:Expr}{a b:lB}{i:TT}(n:PT X c i)(p:PSs X a t)(o:PSs X b u):PS X (.If c a b pos) (QsP i t u):=by
 show dU f g D;refine wpAny_If (thn (hC n f g) λd j ⟨m,I1,l⟩=>?_);cases d with
 |true=>exact p f j g m D I1 l
 |false=>exact o f j g m D I1 l
#print "-"
noncomputable abbrev TG:=V->St->Hp->(St->dQ)->Prop
noncomputable abbrev TGs:=bA->St->Hp->(St->dQ)->Prop
def PG(X:Cx)(target:Expr)(t:TG):Prop:=
 ∀(a:bT) (s:Shared) (c:St) (H:Hp) (v:V) (u:Value) (Q:St->dQ),cI a c->cU v->t v c H Q ->
  wpAny bU X.A (assign target X.env u) (λ_ e=>∃b d,hQ a b d e/\Q b d) X.xe s
def PGs(X:Cx)(ts:fY)(t:TGs):Prop:=
 ∀(a:bT) (s:Shared) (c:St) (H:Hp) (d:bA) (e:aX) (Q:St->dQ),cI a c->Vals d e->t d c H Q ->
  wpAny bU X.A (assignInOrder ((assignEach ts X.env).map (·.2)) e) (λ_ g=>∃b f,hQ a b f g/\Q b f) X.xe s
noncomputable abbrev Qqz:=jh0
def QrP(X:Cx)(t:Qqz):Prop:=
 ∀(a:bT) (s:Shared) (b:St) (H:Hp) (o i v:V) (c d u:Value) (Q:dQ),cI a b->fV o c->fV i d->cU v->t o i v H Q ->
  wpAny bU X.A (setItem c d u) (λ_ f=>∃e,hQ a b e f/\Q e) X.xe s
noncomputable abbrev TIp:=V->V->fG
def PIp(X:Cx)(op:Operator)(t:TIp):Prop:=
 ∀(a:bT) (s:Shared) (b:St) (H:Hp) (x y:V) (v u:Value) (Q:VK),cI a b->mJ->cU y->wK t ->
  wpAny bU X.A (inplaceOp op v u) sH X.xe s
section
variable{X:Cx}{pos:Pos}
noncomputable def QfC(i:Nat):TG:=λv a H Q=>Q (a.set i jD) H
theorem QdY{i:Nat}{x:Str}(hN:X.N.Nodup)(c:l7)(b:nX)(d:nQ:=by show u6):PG X mY (QfC i):=by
 intro a s f H v u Q I r h;exact wpAny_assign_Name (GD I hN c b r (λg e=>⟨_,H,e,h⟩) d)
noncomputable def QrB:TGs:=λb a H Q=>b=[]/\Q a H
noncomputable def QnE(t:TG)(u:TGs):TGs:=λc b H Q=>∃v r,c=v::r/\t v b H λa d=>u r a d Q
theorem Ql2:PGs X [] QrB:=by
 intro a s b H c d Q I r h;obtain⟨e,h⟩:=h;show p8 e r;exact assignInOrder_nil ⟨b,H,I,h⟩
theorem Qh4{e:Expr}{es:fY}{t:TG}{u:TGs}(h1:PG X e t)(h2:PGs X es u)
  (j:(assignEach i1 X.env).map (·.2)=assign e X.env::(assignEach es X.env).map (·.2):=by rfl):PGs X i1 (QnE t u):=by
 intro a s c H n p Q I r h;obtain⟨v,o,l,h⟩:=h;subst l;cases r with
 |cons r g=>
  rw[j];refine assignInOrder_cons (thn (h1 a s c H _ _ _ I r h) λ_ f d=>?_);show iO b m I1 i d;exact h2 a f b m _ _ Q I1 g i
noncomputable def Qsl(K:Ng)(n:Nat)(t:TGs):TG:=λv c H Q=>∃a b,v=aF a/\vA/\Bz/\t b c H Q
theorem QmL{es:fY}{k:Nat}{t:TGs}{n:Nat}(w:fH)(h:PGs X es t)
  (p:ji5=n:=by rfl) (d:(assignEach es X.env).findIdx? (·.1)=nO:=by rfl):PG X (zb0 k) (Qsl X.K n t):=by
 intro c s f H v u Q I r hw;obtain⟨a,g,y,m,q,hw⟩:=hw;show p8 y r;obtain⟨i,rv,l,A⟩:=eR m;refine assign_Tuple_tuple (mN w) l (by simp[p,<-q,rv.length]) d (bG x j);have I1:Az c f x:=I.kept (t':=s.toks) λb o e=>j b o (NB gV) e;exact h c _ f H g _ Q I1 (by simpa using rv) hw
noncomputable def QrH(b c:TE)(t:Qqz):TG:=λv a H Q=>b a H λo f=>c a f λi e=>t o i v e λd=>Q a d
theorem Qnp{o i:Expr}{f g:TE}{t:Qqz}(A:PE X o f)(B:PE X i g)(z:QrP X t)
  (C:∀v,assign (yQ o i) X.env v=(do
   let b <-holding [v] (lA o)
   let c <-holding [v,b] (lA i)
   standAt pos
   holding [v,b,c] (setItem b c v)
   release [v,b,c] []):=by intro _;rfl):PG X (yQ o i) (QrH f g t):=by
 intro a s d H v u Q I r h;rw[C];refine Na (N0 (thn (hC A a d) (aM b l e)));show c7 x F I1 n w e;refine Na (N0 (thn (B a l d F _ I1 w) (aM c j e)));show c7 y E I2 m q e;refine Na (IK (Na (N0 (thn (z a j d E x y v b c u _ I2 n m r q) λ_ G ⟨D,I3,p⟩=>?_))));exact wpAny_release ⟨d,D,I3,p⟩
noncomputable def QoP(te:TE)(g:TG):TS:=λD a H=>te a H λx b=>g x a b D.nx
theorem Qjc{b e:Expr}{te:TE}{g:TG}(n:vT)(m:PG X b g)(l:jc1=sS:=by rfl)(hw:jd0:=by rfl)
  (h1:(assignEach [b] X.env).map (·.2)=[assign b X.env]:=by rfl):PS X (.Assign [b] e pos) (QoP te g):=by
 show dU a c D;refine wpAny_Assign_stores (thn (hC n a c) (aM v f d)) l hw;show c7 x o I1 i j d;rw[h1];exact thn (m a f c o x v _ I1 i j) λ_ p q=>q
theorem Qot{i:Nat}{x:Str}{e:Expr}{te:TE}{a:Pos}(hN:X.N.Nodup)(m:l7)(j:nX)(o:vT)(l:swapsWith e (sO (.Name x a)) pos.line X.env=sS:=by rfl)(n:nQ:=by show u6) :
  PS X (.Assign [.Name x a] e pos) (QoP te (QfC i)):=by
 show dU b c D;refine wpAny_Assign_Name (thn (hC o b c) (aM v r d)) l;show c7 y p I1 f g d;exact GD I1 hN m j f (λq I2=>⟨_,p,I2,g⟩) n
noncomputable def Qs8(i:Nat)(te:TE)(b:TIp):TS:=λD a H=>∃x,a[i]?=sO (sO x)/\te a H λy d=>b x y d λz c=>D.nx (a.set i (sO z)) c
theorem QmI{i:Nat}{x:Str}{e:Expr}{te:TE}{op:Operator}{t:TIp}{j:Pos}(hN:X.N.Nodup)(B:l7)(p:nX)(R:vT)(L:PIp X op t)(Q:nQ:=by show u6) :
  PS X (.AugAssign Ix op e pos) (Qs8 i te t):=by
 show dU a q D;obtain⟨v,T,h⟩:=h;obtain⟨m,M,P⟩:=I.loc;have o:H9:=by show hZ p k;exact eH k;exact .inr (iQ k)
 obtain⟨u,r,l⟩:=P i x v B T o;refine wpAny_AugAssign_Name ?_
 have go:wpAny bU X.A (lA e) (λw g=>wpAny bU X.A (inplaceOp op u w) (λr f=>wpAny bU X.A (zE1 r) (λ_=>SP X a D .next) X.xe f) X.xe g) X.xe s:=by
  refine thn (hC R a q) (aM w C n);show c7 y Y I1 F J n;refine thn (L a C q Y v y u w _ I1 r F J) (aM z s2 n);show c7 Z U I2 E G n;exact GD I2 hN B p E (λs3 I3=>⟨_,U,I3,G⟩) Q
 rcases l with⟨b,O⟩|⟨b,c,S,d⟩
 ·exact Qq I.ok.kind b M O go
 ·show i7 b
  ·exact wpAny_loadName_cell I.ok.kind b S d go
  ·show hZ p k
   ·have:zr5=mK:=b;show lX k
   ·have:zr5=mK:=b;show lX k
#print "-"
section
variable{X:Cx}{pos:Pos}
noncomputable def QiR(c:TT)(h:TS):TS:=λD a H=>∃W:Nat->St->dQ,(∃m,W m a H)/\∀m a H,W m a H ->
 c a H λb f=>if b=true then∃N:St->dQ,(∀d g,N d g->∃e,e<m/\W e d g)/\jn2 a f else D.nx a f
theorem Qig{c:Expr}{body:lB}{t:TT}{u:TS}(x:PassesOwn bU X.A X.env X.xe)(O:PT X c t)(P:PSs X body u):PS X jq4 (QiR t u):=by
 show dU d C D;obtain⟨W,⟨M,F⟩,i⟩:=h;refine wpAny_While (codeAny_whileLoop (λn L=>∃g B,hQ d g B L/\W n g B) ?_ M ⟨C,H,I,F⟩)
 rintro n J ⟨e,z,I1,E⟩
 refine DU x (thn (O d J e z _ I1 (i n e z E)) λb G ⟨y,I2,m⟩=>?_);cases b with
 | true=>
  obtain⟨N,hN,m⟩:=m;rw[fO];refine DU x (thn (P d G e y _ I2 m) (aM f Q l));cases f with
  |next=>
   show iO a j I3 p l;show zZ8
  |cont=>
   show iO a j I3 p l;show zZ8
  |brk=>exact l
  |ret v=>exact l
 |false=>
  rw[if_neg Ea];exact IU ⟨e,y,I2,m⟩
#print "-"
structure It where
 go:Nat->dQ
 yld:Nat->Hp->V->dQ
 stop:Nat->dQ
def QdW(X:Cx)(a:bT)(H:Hp)(b:Addr):Prop:=
 hH/\uM/\b∉X.fs/\PB/\(∀x c,jK->c≠b)/\∀p∈X.pn++a,p.1≠b
theorem Inv.fpOk{X:Cx}{a:bT}{σ:St}{H f:Hp}{s:Shared}{b:Addr}(I:cI a σ)(d:s.heap.objs.size<=b)(h:f b=nO):Ab a f:=by
 refine⟨h,EC (Ni I.lt d),I.nofs d,.inr (Nn I.sz d),eE x c e z,aM p g z⟩
 ·obtain⟨v,q⟩:=BF I;exact absurd (Ni q.lt (Bv z d)) wO
 ·exact absurd (Ni (NC (I.pin p g).1) (Bv z d)) wO
structure Turn(P:Program)(w:World)(K:Ng)(tg:Expr)(J:It)(fp:gO)(it:Addr)(tn:Nat->vI):Prop where
 mem:it∈fp
 obj:∀i h,tn i h->∀b∈fp,∃o,cQ b=sO o/\∀v,o.data≠.cell v
 keep:∀i h h',tn i h->(∀b∈fp,∀o,lP b o)->tn i h'
 item:∀(X:Cx),X.prog=P->X.w=w->X.K=K->fH->∀(i:Nat) (pins:bT) (s:Shared) (σ:St) (H:Hp) (E:bJ),bW->(∀b∈fp,Tv)->BV s->J.go i H ->
  wpAny v7 X.A (pyNext jU) (λr s1=>∃u,r=sO u /\
   wpAny v7 X.A (letOwnedTupleGo tg jU u) (λ_ s2=>∃x H',p' H' s2/\cU x/\zi3 H'/\tn (i+1) s2.heap/\∀b∈fp,H' b=nO) E s1) E s
 done:∀(X:Cx),X.prog=P->X.w=w->X.K=K->fH->∀(i:Nat) (pins:bT) (s:Shared) (σ:St) (H:Hp) (E:bJ),bW->(∀b∈fp,Tv)->BV s->zf3 ->
  wpAny v7 X.A (pyNext jU) (λr s1=>r=nO/\p' H s1) E s
 self:∀(A:Around) (i:Nat) (s:Shared) (Q:bJ) (E:bJ),BV s->Q jU s->wpAny v7 A (pyIter jU) Q E s
noncomputable abbrev TI:=St->Hp->(It->dQ)->Prop
def PIE(X:Cx)(a:bT)(σ:St)(i:Expr)(R:It->dQ)(c:Value)(f:Shared):Prop:=
 ∃(g:Addr) (h:gO) (e:Nat->vI) (J:It) (d:Hp),c=aF g/\hQ a σ d f/\Turn X.prog X.w X.K i J h g e/\e 0 f.heap/\(∀b∈h,Ab a d)/\R J d
def PI(X:Cx)(d iter:Expr)(c:TI):Prop:=
 ∀(a:bT) (s:Shared) (b:St) (H:Hp) (R:It->dQ),cI a b->c b H R ->
  wpAny bU X.A zy7 (λv e=>wpAny bU X.A (pyIter v) (PIE X a b d R) X.xe e) X.xe s
theorem Qdc {M:Model} {A:Around} {E:bJ} {s:Shared} {c:Expr} {it:Addr} {u:Value} {o:Obj} {n:String} {b:eN} {Q:Unit->eA} (d:s.heap.get? it=sO o) (f:o.cls=.type n) (hd:o.data=.fields b)
    (e:zM5=false) (a:Q () s):wpAny M A (letOwnedTupleGo c jU u) Q E s:=by
  unfold letOwnedTupleGo
  cases c<;>first
    |exact Nh a
    |(cases u<;>first
        |exact Nh a
        | (refine Na (L0 d ?_)
           rw[f,hd];show wpAny M A (if(zM5&&b[0]?==sO (rawInt _))=true then _ else _) Q E s;rw[if_neg (by intro h;rw[e,Bool.false_and]at h;cases h)]
           exact Nh a))
noncomputable def Itl(K:Ng)(a:Addr):It:=
 ⟨λi H=>∃b x,vB/\By,λi H x c=>c=H/\∀b,vB->By,λi H=>∃b,vB/\b.length<=i⟩
noncomputable def Itt(K:Ng)(a:Addr):It:=
 ⟨λi H=>∃b x,vA/\By,λi H x c=>c=H/\∀b,vA->By,λi H=>∃b,vA/\b.length<=i⟩
noncomputable def Itr(lo:Int)(n:Nat):It:=⟨λi _=>i<n,λi H x a=>a=H/\x=.int (lo+i),λi _=>n<=i⟩
theorem QeC{P:Program}{w:World}{K:Ng}{M:Expr}(a it:Addr):Turn P w K M (Itl K a) [it] it (λi h=>h.IsListIter it a i) where
 mem:=aP
 obj:=λi h st b g=>by
  have e:b=it:=cN g
  subst e;obtain⟨o,e,c,d⟩:=st;exact⟨o,e,λv z=>by show bK d z⟩
 keep:=λi h q st k=>st.at λo e=>k it aB o e
 item:=by
  intro X y hw A J i f s G H E I n st t;subst y hw A;show iO L x m l t;obtain⟨r,rv,p,R⟩:=f0 m;obtain⟨u,T,Q⟩:=rv.get l;obtain⟨F,f1,f2,D,C,B⟩:=n it aB;refine wpAny_pyNext_list_item st p.isList (x:=u) (bZ T) (aM q j O);have I1:Az f G q:=I.turned (t':=s.toks) (RZ g O) F f1 D C B;show TM j;exact⟨u,rfl,Qdc (s:={ s with heap:=q }) e c d aE ⟨x,H,I1,Q,⟨rfl,λZ S=>by rw[I.list_inj S m];exact l⟩,j,vD g n⟩⟩
 done:=by
  intro X y hw A J i f s G H E I n st t;subst y hw A;show fT L m l t;obtain⟨r,rv,p,R⟩:=f0 m;obtain⟨F,f1,f2,D,C,B⟩:=n it aB;have U:=rv.length;exact wpAny_pyNext_list_end (mN J) st p.isList (by simp;exact Nn (cL U) l) λq Y=>⟨rfl,I.turned (t':=s.toks) (yK g Y) F f1 D C B⟩
 self:=λ_ _ _ _ _ st h=>wpAny_pyIter_listiter st h
theorem QdQ{P:Program}{w:World}{K:Ng}{M:Expr}(a it:Addr):Turn P w K M (Itt K a) [it] it (λi h=>zC7 a) where
 mem:=aP
 obj:=λi h st b j=>by
  have e:b=it:=cN j
  subst e;obtain⟨o,e,c,d⟩:=st;exact⟨o,e,λv z=>by show bK d z⟩
 keep:=λi h r st k=>st.at λo e=>k it aB o e
 item:=by
  intro X y hw A J i f s G H E I q st t;subst y hw A;show iO L x n m t;obtain⟨g,rv,p,R⟩:=eR n;obtain⟨u,T,Q⟩:=rv.get m;obtain⟨F,f1,f2,D,C,B⟩:=q it aB;refine wpAny_pyNext_tuple_item st (CG s a g p) (x:=u) (bZ T) (aM r l O);have I1:Az f G r:=I.turned (t':=s.toks) (RZ j O) F f1 D C B;show TM l;exact⟨u,rfl,Qdc (s:={ s with heap:=r }) e c d aE ⟨x,H,I1,Q,⟨rfl,λZ S=>by rw[I.tuple_inj S n];exact m⟩,l,vD j q⟩⟩
 done:=by
  intro X y hw A J i f s G H E I q st t;subst y hw A;show fT L n m t;obtain⟨g,rv,p,R⟩:=eR n;obtain⟨F,f1,f2,D,C,B⟩:=q it aB;have U:=rv.length;exact wpAny_pyNext_tuple_end (mN J) st (CG s a g p) (by simp;exact Nn (cL U) m) λr Y=>⟨rfl,I.turned (t':=s.toks) (yK j Y) F f1 D C B⟩
 self:=λ_ _ _ _ _ st h=>wpAny_pyIter_tupleiter st h
theorem Qdl{P:Program}{w:World}{K:Ng}{C:Expr}(it:Addr)(lo:Int)(n:Nat):Turn P w K C (Itr lo n) [it] it (λi h=>IsRangeIter h it (lo+wL*1) (gU-wL) 1) where
 mem:=aP
 obj:=λi h st b c=>by
  have e:b=it:=cN c
  subst e
  exact⟨_,st,λv z=>by
   show ji6 B⟩
 keep:=λi h g st k=>k it aB _ st
 item:=by
  intro X m hw p l i a s y H E I f st j;subst m hw p;obtain⟨x,f1,f2,u,r,q⟩:=f it aB;have W:=Walks.range (prog:=X.prog) (w:=X.w) (mN l) it lo 1 n;refine W.item i s _ _ j st λv g tk F d D=>?_;show aN t F;have I1:zx3 a y H s g:=I.turned (λb o c e=>D b o (bZ c) e) x f1 u r q;refine⟨_,rfl,Qdc (s:={ s with heap:=g,toks:=tk }) (n:="range_iterator") d rfl rfl aE ⟨.int (lo+i),H,I1,⟨t,?_⟩,gD,d,vD c f⟩⟩;rw[Int.mul_one]
 done:=by
  intro X m hw p l i a s y H E I f st j;subst m hw p;obtain⟨x,f1,f2,u,r,q⟩:=f it aB;exact OJ (mN l) st (by have:n<=i:=j;lia) λg G=>⟨rfl,I.turned (t':=s.toks) (yK c G) x f1 u r q⟩
 self:=jn3
section
variable{X:Cx}{tg:Expr}
theorem Qcr{c:bT}{σ:St}{H:Hp}{s:Shared}{R:It->dQ}{E:bJ}{lo a:Int}{t u v:Tok}{tk:Nat}(I:cI c σ)(h1:wD<=lo)(h2:lo<2^62)(g:wD<=a)(f:a<2^62)
  (q:R (Itr lo XV) H):wpAny bU X.A (pyIter d8) (PIE X c σ tg R) E { s with heap:=s.heap.push { cls:=Bc,data:=PH a },toks:=tk }:=by
 refine wpAny_pyIter_range (IsRange.new ..) (small_one h1 h2 g f) ?_;have I1:Inv X c σ H { s with heap:=s.heap.push { cls:=Bc,data:=PH a },toks:=tk }:=I.kept rY
 refine⟨zk4,[zk4],_,_,H,rfl,
  I1.kept (t':=tk) rY,Qdl _ lo XV,?_,bG b d,q⟩
 ·have i:lo+pV*1=lo:=aP
  have h:((XV:Nat):Int)-pV=Builtin.Range.rangeSize lo a 1:=by rw[rangeSize_one];split<;>lia
  show IsRangeIter _ _ (lo+pV*1) (((XV:Nat):Int)-pV) 1;rw[i,h];exact dF
 ·have e:b=zk4:=cN d
  subst e;exact I1.fpOk c8 (I1.hok.fresh c8)
noncomputable def QqM(c:TA):TI:=λa H R=>c a H λb d=>∃j:Int,b=[aC j]/\wD<=j/\j<2^62/\R (Itr 0 j.toNat) d
noncomputable def Qpr(c:TA):TI:=λa H R=>c a H λb d=>∃i j:Int,b=[aC i,aC j]/\(wD<=i/\i<2^62/\wD<=j/\j<2^62)/\R (Itr i (j-i).toNat) d
theorem Qed{a:Expr}{d:TA}{p pos:Pos}(u:Bl)(o:B0)(v:PA X [a] d)(n:pK a=[fM a]:=by rfl):PI X tg (.Call AN [a] [] pos) (QqM d):=by
 show dU b f R;refine Call_ (VS I u o boot_range (Eb (thn (sL v b f) (aM x y g)) n rfl));show c7 w z I1 l c g;obtain⟨j,e,c,m,q⟩:=c;subst e;cases l with
 |cons r i=>
  cases i;show aN t r;exact call_range_1 (Qcr I1 aE aE c m (bZ q))
theorem Qf3{a b:Expr}{l:TA}{p pos:Pos}(A:Bl)(z:B0)(B:PA X [a,b] l)(y:TN a b=[fM a,fM b]:=by rfl)(d:pK b=[fM b]:=by rfl) :
  PI X tg (.Call AN [a,b] [] pos) (Qpr l):=by
 show dU c m R;refine Call_ (VS I A z boot_range (Eb (thn (sL B c m) (aM D F n)) (by rw[y,d]) (by rw[d];rfl)));show c7 C G I1 o g n;obtain⟨i,j,e,⟨g,x,w,v⟩,q⟩:=g;subst e;cases o with
 | cons r f=>
  cases f with
  |cons u f=>
   cases f;show aN t r;show aN E u;exact call_range_2 (Qcr I1 g x w v q)
noncomputable def Qr5(f:TI)(g:TG)(h:TS):TS:=λD a H=>f a H λJ l=>∃W:Nat->Nat->St->dQ,(∃m,W 0 m a l)/\∀i m a H,W i m a H ->
 (zf3/\D.nx a H)\/(J.go i H/\∃N:St->dQ,(∀b c,N b c->∃e,e<m/\W (i+1) e b c)/\∀x c,zi3 c->g x a c λd j=>jn2 d j)
noncomputable def Qax(a:gO)(h:Heap):bT:=a.filterMap λb=>(h.get? b).map λo=>(b,o)
theorem Kq{a:gO}{h:Heap}{b:Addr}{o:Obj}(c:b∈a)(e:cQ b=sO o):(b,o)∈Qax a h:=Lx.mpr ⟨b,c,by rw[e];rfl⟩
theorem Qe1{a:gO}{h:Heap}{p:Addr×Obj}(c:p∈Qax a h):p.1∈a/\h.get? p.1=sO p.2:=by
 obtain⟨b,d,e⟩:=Lx.mp c;cases q:cQ b with
 |none=>show bK q e
 |some o=>
  rw[q]at e;have f:(b,o)=p:=N2 e;subst f;show k5 d q
theorem Inv.pinned{a:bT}{σ:St}{H:Hp}{s:Shared}{c:gO}(I:cI a σ)(j:∀b∈c,Ab a H)(i:∀b∈c,∃o,c9 s b=sO o/\∀v,o.data≠.cell v):Inv X (a++Qax c s.heap) σ H s:=
 I.pins_of λp h=>(NU.mp h).elim (λz=>I.pin p (N4 _ z)) λz=>by
  obtain⟨f,e⟩:=Qe1 z;obtain⟨l,f1,f2,_⟩:=j p.1 f;obtain⟨o,g,d⟩:=i p.1 f;show bK e g;exact⟨e,l,f1,f2,d⟩
theorem Inv.unpinned{a b:bT}{σ:St}{H:Hp}{s:Shared}(I:Inv X (a++b) σ H s):cI a σ:=I.pins_of λp c=>I.pin p (N4 _ (Em _ c))
theorem QmX{iter:Expr}{body:lB}{wi:TI}{g:TG}{tb:TS}{pos:Pos}(G:PassesOwn bU X.A X.env X.xe)(hc:fH)(hi:Td)(hg:PG X tg g)(q:PSs X body tb)
  (hs:u5:=by intro _;rfl):PS X ji7 (Qr5 wi g tb):=by
 show dU c σ D;refine wpAny_For (thn (hi c s σ H _ I h) λv s1 h1=>thn h1 λaa s2 h2=>?_) hs;obtain⟨it,M,tn,J,H2,e,I2,T,R,f2,W,⟨m0,w0⟩,C⟩:=h2;subst e;have p:∀{y:Hp},zy8->∀b∈M,Ab c y:=jj1 q
 refine codeAny_forLoop_any (λn s'=>∃i l y,hQ c l y s'/\BV s'/\zy8/\W i n l y) ?_ m0 ⟨0,σ,H2,I2,R,vD q f2,w0⟩
 rintro n s3 ⟨i,j,O,I3,E,L,w3⟩
 rcases C i n j O w3 with⟨stop,qn⟩|⟨go,N,hN,step⟩
 ·refine DU G (thn (T.done X rfl rfl rfl hc i c s3 j O X.xe I3 (p L) E stop) λr s4 ⟨U,I4⟩=>?_);subst U;exact IU ⟨j,O,I4,qn⟩
 ·refine DU G (thn (T.item X rfl rfl rfl hc i c s3 j O X.xe I3 (p L) E go) λr s4 ⟨u,U,h4⟩=>?_);subst U;refine DU G (thn h4 λ_ s5 Q=>?_);obtain⟨x,H5,I5,r5,y5,B,Y⟩:=Q;have Z:=I5.pinned (p Y) (T.obj _ _ B);refine DU G (thn (hg _ s5 j H5 x u _ Z r5 (step x H5 y5)) λ_ s6 Q=>?_);show iO P H6 I6 q6 Q;refine DU G (thn (q _ s6 P H6 _ I6 q6) (aM f S z))
  have again:∀{a:St} {t:Hp},Inv X (c++Qax M s5.heap) a t S->N a t->∃m,m<n/\∃i l y,hQ c l y S/\BV S/\zy8/\W i m l y:=λ{a t} I7 F=>by
   obtain⟨m',hm,w7⟩:=hN a t F;refine⟨m',hm,i+1,a,t,I7.unpinned,T.keep _ _ _ B λb q o e=>(I7.pin (b,o) (SL q)).1,bG b q,w7⟩;obtain⟨o,e,d⟩:=T.obj _ _ B b q;exact(I7.pin (b,o) (SL q)).2.1
  cases f with
  |next=>show iO a t I7 F z;exact again I7 F
  |cont=>show iO a t I7 F z;exact again I7 F
  |brk=>obtain⟨a,t,I7,z⟩:=z;exact⟨a,t,I7.unpinned,z⟩
  |ret v=>obtain⟨x7,a,t,I7,r7,z⟩:=z;exact⟨x7,a,t,I7.unpinned,r7,z⟩
#print "-"
noncomputable abbrev R2:=V->V->fG
def OpR(X:Cx)(f:Aw)(r:R2):Prop:=
 ∀(a:bT) (s:Shared) (b:St) (H:Hp) (x y:V) (v u:Value) (Q:VK),cI a b->mJ->cU y->wK r ->
  wpAny bU X.A P3 sH X.xe s
def UnR(X:Cx)(f:zC8)(r:V->fG):Prop:=
 ∀(a:bT) (s:Shared) (b:St) (H:Hp) (x:V) (v:Value) (Q:VK),cI a b->mJ->r x H Q ->
  wpAny bU X.A (f v) sH X.xe s
def CallR(X:Cx)(f:Value)(r:bA->fG):Prop:=
 ∀(a:bT) (s:Shared) (b:St) (H:Hp) (c:bA) (d:aX) (Q:VK),cI a b->Vals c d->r c H Q ->
  wpAny bU X.A (call f d) sH X.xe s
def Qto(X:Cx)(r:V->Hp->(Bool->dQ)->Prop):Prop:=
 ∀(a:bT) (s:Shared) (b:St) (H:Hp) (x:V) (v:Value) (Q:Bool->dQ),cI a b->mJ->r x H Q ->
  wpAny bU X.A (truthy v) zJ1 X.xe s
noncomputable def tOp(r:R2)(c b:TE):TE:=λa H Q=>c a H λx e=>b a e λy d=>r x y d Q
noncomputable def tUn(r:V->fG)(b:TE):TE:=λa H Q=>b a H λx c=>r x c Q
noncomputable def rI(C:Int->Int->Prop)(g:Int->Int->V):R2:=λx y H Q=>∃i j,x=aC i/\y=aC j/\C i j/\Q oT H
noncomputable def rI0(g:Int->Int->V):R2:=λx y H Q=>∃i j,x=aC i/\y=aC j/\Q oT H
noncomputable def rU(g:Int->V):V->fG:=λx H Q=>∃i,x=aC i/\Q (g i) H
section
variable{X:Cx}{a b c:Expr}{ta tb tc:TE}{pos:Pos}
theorem Qo4(B:t5)(z:BK){d:bT}{s:Shared}{σ:St}{H:Hp}{R:V->V->dQ}(I:cI d σ)
  (h:ta σ H λx m=>tb σ m λy e=>R x y e) {Q:bJ} {f:Aw}
  (t:∀v u j x y e,hQ d σ e j->mJ->cU y->R x y e->wpAny bU X.A P3 Q X.xe j) :
  wpAny bU X.A (lA a) (λv i=>wpAny bU X.A (lA b) (λu g=>wpAny bU X.A P3 Q X.xe g) X.xe i) X.xe s:=by
 refine thn (hC B d σ) (aM v n l);show c7 x m I1 p r l;refine thn (z d n σ m _ I1 r) (aM u j l);show c7 y e I2 o q l;exact t v u j x y e I2 p o q
theorem QpU{op:Operator}{r:R2}(j:OpR X (binaryOp op) r)(m:t5)(l:BK):PE X (.BinOp a op b pos) TC:=by
 show dU d e Q;exact wpAny_BinOp (Qo4 m l I h λv u f x y n I2 i g q=>j d f e n x y v u Q I2 i g q)
theorem Qpb{op:UnaryOp}{r:V->fG}(l:UnR X (unaryOp op) r)(m:t5):PE X (.UnaryOp op a pos) (tUn r ta):=by
 show dU d e Q;refine UnaryOp_ (thn (hC m d e) (aM v g f));show c7 x n I1 i j f;exact l d g e n x v Q I1 i j
theorem opI{f:Aw}{C:Int->Int->Prop}{g:Int->Int->Int}
  (rule:∀(i j:Int) (t u:Tok) (s:Shared) (Q:bJ) (E:bJ),C i j->Q (.int oT s.toks) { s with toks:=nG }->wpAny bU X.A (f zA (.int j u)) Q E s) :
  OpR X f (rI C λi j=>.int oT):=by
 intro d s o H x y v u Q I m l h;obtain⟨i,j,rfl,rfl,n,q⟩:=h;show aN t m;show aN e l;exact rule i j t e s _ _ n ⟨.int oT,H,hG,f9,q⟩
theorem Qps{f:Aw}{g:Int->Int->Int}
  (rule:∀(i j:Int) (t u:Tok) (s:Shared) (Q:bJ) (E:bJ),Q (.int oT s.toks) { s with toks:=nG }->wpAny bU X.A (f zA (.int j u)) Q E s) :
  OpR X f (rI0 λi j=>.int oT):=by
 intro d s n H x y v u Q I m l h;show CO;show aN t m;show aN e l;exact rule i j t e s _ _ ⟨.int oT,H,hG,f9,q⟩
theorem QoT{f:Aw}{g:Int->Int->Bool}
  (rule:∀(i j:Int) (t u:Tok) (s:Shared) (Q:bJ) (E:bJ),Q (.bool oT) s->wpAny bU X.A (f zA (.int j u)) Q E s) :
  OpR X f (rI0 λi j=>.bl oT):=by
 intro d s n H x y v u Q I m l h;show CO;show aN t m;show aN e l;exact rule i j t e s _ _ ⟨.bl oT,H,I,rfl,q⟩
def Qtm(i j:Int):Prop:=0<j/\HQ
def QsO(i j:Int):Prop:=zp6
def CMul(i j:Int):Prop:=zn7
theorem CMul.ok{i j:Int}(h:CMul i j):IntMulOk i j:=by
 rcases h with⟨e,d⟩|⟨e,d⟩
 ·exact .of_left (intBits_le_64 e d)
 ·exact .of_right (intBits_le_64 e d)
theorem op_add:OpR X AX jn4:=Qps λ_ _ _ _ _ _ _ q=>add_int q
theorem QmO:OpR X (binaryOp .Sub) (rI0 λi j=>.int (i-j)):=Qps λ_ _ _ _ _ _ _ q=>sub_int q
theorem Qmo:OpR X SN (rI CMul λi j=>.int (i*j)):=opI λ_ _ _ _ _ _ _ d q=>mul_int q d.ok
theorem QjN:OpR X (binaryOp .FloorDiv) (rI Qtm λi j=>.int (i/j)):=opI λi j _ _ _ _ _ d q=>by
 have e:iY<j:=d.1;have f:HQ:=d.2;exact floordiv_int (Oa e) (by rw[Int.fdiv_eq_ediv_of_nonneg i (FI e)];exact q) (.inl (OM bR))
theorem Qmf:OpR X (binaryOp .Mod) (rI (λ_ j=>0<j) λi j=>.int (i%j)):=opI λi j _ _ _ _ _ d q=>by
 have e:iY<j:=d;exact mod_int' (Oa d) (by rw[Int.fmod_eq_emod_of_nonneg i (FI d)];exact q)
theorem Qoy:OpR X (binaryOp .Pow) (rI QsO λi j=>SU):=opI λ_ _ _ _ _ _ _ d q=>pow_int_small d.1 d.2.1 d.2.2 q
theorem Qlg:OpR X (inplaceOp .Add) jn4:=Qps λ_ _ _ _ _ _ _ q=>iadd_int q
theorem unI{f:zC8}{g:Int->Int}
  (rule:∀(i:Int) (t:Tok) (s:Shared) (Q:bJ) (E:bJ),Q (.int (g i) s.toks) { s with toks:=nG }->wpAny bU X.A (f zA) Q E s) :
  UnR X f (rU λi=>.int (g i)):=by
 intro d s j H x v Q I e h;obtain⟨i,rfl,q⟩:=h;show aN t e;exact rule i t s _ _ ⟨.int (g i),H,hG,f9,q⟩
theorem Qn5:UnR X (unaryOp .USub) (rU λi=>.int (-i)):=unI λ_ _ _ _ _ q=>neg_int q
#print "-"
section
variable{X:Cx}{a b c:Expr}{ta tb tc:TE}{pos:Pos}
theorem QgE{d:bT}{σ:St}{H:Hp}{s:Shared}{Q:VK}{k f:Bool}(I:cI d σ)(q:Q (.bl k) H)(e:k=f):EP X d σ Q (.bool f) s:=by
 subst e;exact⟨.bl k,H,I,rfl,q⟩
theorem op_lt:OpR X zC9 (rI0 λi j=>Bg i j):=QoT λ_ _ _ _ _ _ _ q=>lt_int q
theorem op_le:OpR X zA4 (rI0 λi j=>B8 i j):=QoT λ_ _ _ _ _ _ _ q=>le_int q
theorem Qqm:OpR X (compareOp .Gt) (rI0 λi j=>Bg j i):=QoT λ_ _ _ _ _ _ _ q=>gt_int q
theorem Qpa:OpR X (compareOp .GtE) (rI0 λi j=>B8 j i):=QoT λ_ _ _ _ _ _ _ q=>ge_int q
theorem Qfz:OpR X zC9 (λx y H Q=>∃i j,x=c4 i/\y=c4 j/\Q (.bl (decide (Sr i j))) H):=by
 intro d s g H x y v u Q I f e h;show CO;show aN t f;show aN l e;exact lt_str (QgE I q rfl)
theorem op_isN:OpR X zD0 (λx y H Q=>y=.non/\Q (.bl (decide (x=.non))) H):=by
 intro e s g H x y v u Q I d f h;show tF q h;cases f;refine is_none_gen (QgE I q ?_)
 cases x<;>first
  |(cases d;rfl)
  |(show aN t d;rfl)
theorem Qlx:OpR X (compareOp .IsNot) (λx y H Q=>y=.non/\Q (.bl (!decide (x=.non))) H):=by
 intro e s g H x y v u Q I d f h;show tF q h;cases f;refine isnot_none_gen (QgE I q ?_)
 cases x<;>first
  |(cases d;rfl)
  |(show aN t d;rfl)
theorem OpR.or{f:Aw}{r j:R2}(h:OpR X f r)(h':OpR X f j):OpR X f (λx y H Q=>wK r\/wK j):=by
 intro d s e H x y v u Q I i g q
 show i7 q
 ·exact h d s e H x y v u Q I i g q
 ·exact h' d s e H x y v u Q I i g q
theorem Qke{op:CmpOp}{r:R2}(j:RS)(n:t5)(m:BK)(l:RF):PE X Rv TC:=by
 show dU d e Q;exact wpAny_Compare1 (Qo4 n m I h λv u f x y o I2 i g q=>j d f e o x y v u Q I2 i g q) l
noncomputable def QpN(t:TE):TT:=λd H Q=>t d H λx e=>∃k,x=.bl k/\Q k e
theorem Qlr{op:CmpOp}{r:R2}(q:RS)(A:t5)(w:BK)(t:RF):PT X Rv (QpN TC):=by
 show dU d f Q
 refine wpAny_isTrue_Compare1 (thn (hC A d f) λv i ⟨x,D,I1,m,p⟩=>thn (w d i f D _ I1 p) λu g ⟨y,C,I2,l,o⟩=>
  thn (q d g f C x y v u _ I2 m l o) λc E ⟨z,B,I3,j,k,e,n⟩=>?_) t
 show p8 e j;exact Iy ⟨B,I3,n⟩
def QqG(K:Ng)(x:V)(H:Hp)(k:Bool):Prop:=
 match x with
 |.non=>k=false
 |.bl b=>k=b
 |aC i=>k=(i != 0)
 |c4 y=>zV7
 |.byt y=>zX9
 |aF p=>(∃d,SqL K H p d/\k=!d.isEmpty)\/(∃d,SqT K H p d/\k=!d.isEmpty)\/∃e,H p=sO (.dK e)/\k=!e.isEmpty
 |_=>False
theorem Qdb{κ:Type}{kvs:l6}{d:m3 κ}(r:p5 d):(!d.isEmpty)=!kvs.isEmpty:=by
 cases r<;>rfl
theorem UJ{xs:bA}{its:aX}(r:q9):(!its.toArray.isEmpty)=!xs.isEmpty:=by
 cases r<;>simp
theorem W2:(sizeLine:Nat)<2^63:=by rw[DL];decide
theorem Qm2:Qto X (λx H Q=>∃k,QqG X.K x H k/\Q k H):=by
 intro A s E H x v Q I l h;show fT k e q h;have F:=W2;have D:zA5:=DL;cases x with
 |non=>
  cases l;have d:k=false:=e;subst d;exact truthy_none ⟨H,I,q⟩
 |bl b=>
  cases l;have d:k=b:=e;subst d;exact Iy ⟨H,I,q⟩
 |int i=>
  show aN t l;have d:k=(i != 0):=e;subst d;exact PySem.P.truthy_int ⟨H,I,q⟩
 |str y=>
  show aN t l;obtain⟨C,d⟩:zV7:=e;subst d;exact PySem.P.truthy_str aH ⟨H,hG,q⟩
 |byt y=>
  show aN t l;obtain⟨C,d⟩:zX9:=e;subst d;exact PySem.W.truthy_bytes (Nw (Np (Nn C (Nt D)) aE)) ⟨H,hG,q⟩
 |ref p=>
  cases l;have d:(∃j,SqL X.K H p j/\k=!j.isEmpty)\/(∃j,SqT X.K H p j/\k=!j.isEmpty)\/∃f,H p=sO (.dK f)/\k=!f.isEmpty:=e
  rcases d with⟨j,n,d⟩|⟨j,n,d⟩|⟨f,n,d⟩
  ·subst d;obtain⟨z,r,u,B⟩:=f0 n;show cP g r;exact wpAny_truthy_list u.isList (by simp only[Nr];lia) ⟨H,hG,by rw[UJ r];exact q⟩
  ·subst d;obtain⟨z,r,u,B⟩:=eR n;show cP g r;exact truthy_tuple u (by simp only[Nr];omega) ⟨H,hG,by rw[UJ r];exact q⟩
  ·subst d;obtain⟨B,hS,o,r,m⟩:f.length<=sizeLine/\(zg9 p)=false/\∃o,KV f o/\s.heap.DictOf Hh p o:=r9 p n;have g:f.length=o.length:=Ef r;exact wpAny_truthy_dict hS m aH ⟨H,hG,by rw[Qdb r];exact q⟩
 |_=>show AF e
theorem Qhf(m:t5)(l:zN6) :
  PT X a (λσ H Q=>ta σ H λx e=>∃k,QqG X.K x e k/\Q k e):=by
 show dU d σ Q;refine isTrue_plain (thn (hC m d σ) (aM v g f)) (l _);show c7 x n I1 i j f;exact Qm2 d g σ n x v Q I1 i j
theorem op_add_str:OpR X AX (λx y H Q=>∃i j,x=c4 i/\y=c4 j/\i.length+j.length<=sizeLine/\Q (.str (i++j)) H):=by
 intro d s m H x y v u Q I g f h;obtain⟨i,j,rfl,rfl,l,q⟩:=h;show aN t g;show aN e f;exact add_str (λe tk=>⟨.str (i++j),H,hG,f9,q⟩) l
theorem KH{x:V}{us:aX}(r:Vals [x] us):∃u,us=[u]/\cU x:=by
 cases r with
 |cons e d=>cases d;exact⟨_,rfl,e⟩
theorem QbR{x y:V}{us:aX}(r:Vals [x,y] us):∃u w',us=[u,w']/\cU x/\fV y w':=by
 cases r with
 |cons g f=>
  cases f with
  |cons e d=>cases d;exact⟨_,_,rfl,g,e⟩
theorem Qfl(f:fH):CallR X (.builtin "max") (λxs H Q=>∃i j,xs=[aC i,aC j]/\Q (.int zt3) H):=by
 intro e s g H xs m Q I r h;obtain⟨i,j,rfl,q⟩:=h;show ja7;refine max_two_ints (mN f) jd1
 by_cases d:j>i
 ·rw[bH d,bH d];exact f9
 ·rw[bQ d,bQ d];exact f9
theorem Qe4(f:fH):CallR X (.builtin "min") (λxs H Q=>∃i j,xs=[aC i,aC j]/\Q (.int zt4) H):=by
 intro e s g H xs m Q I r h;obtain⟨i,j,rfl,q⟩:=h;show ja7;refine min_two_ints (mN f) jd1
 by_cases d:j<i
 ·rw[bH d,bH d];exact f9
 ·rw[bQ d,bQ d];exact f9
#print "-"
structure ObjM(h:Heap)(x dx C:Addr)(mA:eK):Prop where
 obj:cQ x=sO (OA C dx)
 ns:h.Ns1 dx mA
 ne:dx≠x
theorem QgD{h:Heap}{g:Addr}{d:eK}(n:h.Ns1 g d):∃c,cQ g=sO c/\∀name,OZ name c=sO (d name):=by
 obtain⟨o,f,r,j,hd,m,_,l⟩:=n;refine⟨o,j,λname=>?_⟩;have e:=l name;unfold nsFind findBy at e;rw[<-Array.find?_toList]at e;unfold OZ;rw[hd];show BL
 ·rename_i y q;rw[q]at e;exact congrArg sO e
 ·rename_i q;rw[q]at e
  have a:f.toList.any (·.refKey)=false:=by
   rw[YaR];intro y i;obtain⟨z,t,b⟩:=m y (Yaa.mp i);simp[DictEntry.refKey,b]
  have p:¬f.toList.any (·.refKey)=true:=by rw[a];exact Ea
  rw[bQ p];exact congrArg sO e
theorem ObjM.look{h:Heap}{x c C:Addr}{b:eK}(I:ObjM h x c C b):∃a,PySem.W.InstAt h x (OA C c) C (sO a)/\∀name,OZ name a=sO (b name):=
 let⟨a,d,e⟩:=QgD I.ns
 ⟨a,⟨I.obj,rfl,rfl,d⟩,e⟩
theorem RelO.some_of{v:V}{o:yR}(r:RelO jD o):∃u,o=sO u/\cU v:=by
 cases o with
 |none=>show AF r
 |some u=>exact⟨u,rfl,r⟩
section
variable{P:Program}{w:World}{H H':Hp}{h h':Heap}{a C dx:Addr}{fs fs':HD}
theorem QkF(c:qA)(e:H a=sO zG5):∃b,ObjM h a dx C b/\(∀f,zs4)/\PySem.Within b (fs.map (·.1))/\fs.length<=1000/\H dx=qV a:=by
 obtain⟨d,z,ne,ob,b,n,r,q⟩:=(show ObjOk P w H h a zG5 from c a _ e)
 exact⟨b,⟨ob,n,ne⟩,r,q,z,d⟩
#print "-"
structure Cls(K:Ng)(C:Addr):Prop where
 pg:YaY K C Str.empty=true
 hd:PySem.W.hasDictIn K C=true
 po:PySem.W.plainOver K C=true
 sa:O0 K (aD C) "__setattr__"=sO (sO (.builtin "object.__setattr__"))
theorem Cls.get{K:Ng}{C:Addr}(c:Cls K C)(f:Str):YaY K C f=true:=c.pg
def QqX(K:Ng)(C:Addr)(f:Str):Prop:=O0 K (aD C) f=sO nO
section
variable{X:Cx}{pins:bT}{σ:St}{H:Hp}{s:Shared}{A:Around}{E:bJ}{Q:bJ}{c:Value}{b:Bool}
inductive TyOf(K:Ng)(H:Hp):V->yY where
 |non:TyOf K H .non (.type "NoneType")
 |bl (x:Bool):TyOf K H (.bl x) (.type "bool")
 |int (i:Int):TyOf K H cT (.type "int")
 |str (x:Str):TyOf K H iX (.type "str")
 |flt (x:UInt64):TyOf K H (.flt x) (.type "float")
 |lst {a:Addr} {xs:bA} (e:H a=sO iK):TyOf K H (aD a) rZ
 |frz {a:Addr} {o:Obj} {xs:bA} (e:H a=sO (.frz o iK)):TyOf K H (aD a) rZ
 |tup {a:Addr} {xs:bA} (e:H a=sO mF):TyOf K H (aD a) yG
 |dK {a:Addr} {kvs:dM V} (e:H a=sO sZ):TyOf K H (aD a) uQ
 |dT {a:Addr} {kvs:gB} (e:H a=sO (.dT kvs)):TyOf K H (aD a) uQ
 | ins {a C dx:Addr} {fs:HD} (e:H a=sO zG5) (cl:Cls K C) (ha:O0 K (aD C) "__class__"=sO (sO zq0))
   (hn:PySem.W.specialIn K zq0 "__get__"=sO (sO (.builtin "getset_descriptor.__get__"))) (htk:PySem.W.takesIn K zq0=sO true)
   (hm:PySem.W.mroIn K C (.type "object")=sO true):TyOf K H (aD a) (aD C)
theorem QfD{x:V}{u t:Value}(I:bW)(d:cU x)(ty:TyOf X.K H x t)(e:Ybd X.K t c=sO b)(h:∀tk,Q (.bool b) { s with toks:=tk }) :
  wpAny bU A (call zs6 [u,c]) Q E s:=by
 cases ty with
 |non=>cases(show u=Value.none from d);exact ER PySem.W.kitx_none I.kIn True.intro e iE h
 |bl y=>cases(show u=Value.bool y from d);exact ER PySem.W.kitx_bool I.kIn True.intro e iE h
 |int i=>obtain⟨t,q⟩:=(show zw9 from d);cases q;exact ER PySem.W.kitx_int I.kIn True.intro e iE h
 |str y=>obtain⟨t,q⟩:=(show∃t,u=Value.str y t from d);cases q;exact ER PySem.W.kitx_str I.kIn True.intro e iE h
 |flt y=>obtain⟨t,q⟩:=(show∃t,u=Value.float y t from d);cases q;exact ER PySem.W.kitx_float I.kIn True.intro e iE h
 |@lst a l f=>
  cases(show u=fJ a from d);obtain⟨_,_,n,_,g⟩:=(show ObjOk X.prog X.w H s.heap a (.lst l)from r9 a f)
  exact ER LQ I.kIn (gN g) e iE h
 |@frz a ob l f=>
  cases(show u=fJ a from d);obtain⟨_,_,_,n,_,g⟩:=(show ObjOk X.prog X.w H s.heap a (.frz ob (.lst l))from r9 a f)
  exact ER LQ I.kIn (gN g) e iE h
 |@tup a l f=>
  cases(show u=fJ a from d);obtain⟨_,_,_,p⟩:=(show ObjOk X.prog X.w H s.heap a (.tup l)from r9 a f)
  obtain⟨o,g,m,_⟩:=p;exact ER YaB I.kIn ⟨o,g,m⟩ e iE h
 |@dK a j f=>
  cases(show u=fJ a from d);obtain⟨_,_,L,_,p⟩:=(show ObjOk X.prog X.w H s.heap a (.dK j)from r9 a f)
  obtain⟨o,F,G,g,m,_⟩:=p;exact ER YaS I.kIn (Cm g m) e iE h
 |@dT a j f=>
  cases(show u=fJ a from d);obtain⟨_,_,l,_,o,F,G,g,m,_⟩:=(show ObjOk X.prog X.w H s.heap a (.dT j)from r9 a f)
  exact ER YaS I.kIn (Cm g m) e iE h
 |@ins a C P fs f cl D v r B=>
  cases(show u=fJ a from d);obtain⟨N,O,_⟩:=QkF I.hok f;obtain⟨M,J,_⟩:=O.look;exact ER (PySem.W.kitx_own (cl.get _) cl.hd D v r B) I.kIn J e iE h
#print "-"
structure Room(k:Nat)(A:Around):Prop where
 hd:f5
 dp:A.depth+3*k+5<recursionLimit
 un:A.units+16*k+200<cLine
theorem Room.mono{j k:Nat}{A:Around}(r:Room k A)(h:j<=k):Room j A:=⟨r.hd,by have:=r.dp;lia,by have:=r.un;lia⟩
theorem Room.deeper{k:Nat}{A:Around}(r:Room (k+1) A)(env:Env):Room k (A.deeper env):=
 ⟨r.hd,by have:=r.dp;show A.depth+1+3*k+5<_;lia,by have:=r.un;show A.units+3+16*k+200<_;lia⟩
theorem Room.depth{k:Nat}{A:Around}(r:Room k A):A.depth<recursionLimit:=by have:=r.dp;exact Np (Nn cJ cJ) this
theorem Room.units{k:Nat}{A:Around}(r:Room k A):A.units+64<cLine:=by have:=r.un;lia
noncomputable def QrW:TA:=λ_ H Q=>Q [] H
noncomputable def Qpy(d:TE)(c:TA):TA:=λa H Q=>d a H λx f=>c a f λb e=>Q (x::b) e
section
variable{X:Cx}{e:Expr}{es:fY}{te:TE}{t:TA}{pos:Pos}
theorem Qnn:PA X [] QrW:=λ_ _ _ _ H Q I h=>E9 ⟨[],H,I,.nil,h⟩
theorem Qlf(o:vT)(n:zi4)(m:Cq:=by rfl):PA X i1 (Qpy te t):=by
 intro pos a s c H Q I h;rw[m];show wpAny _ _ (spliced ((false,BH e)::backTo pos xQ)) _ _ s;refine Dg (thn (hC o a c) (aM u f b));show c7 x q I1 i l b;refine thn (n pos a f c q _ I1 l) (aM r v b);show c7 d p I2 g j b;exact⟨x::d,p,I2,.cons i g,j⟩
noncomputable def QsQ(t:TA):TE:=λc H Q=>t c H λa b=>zy9/\∀p,b p=nO->Q (aD p) (upd b p (.tup a))
noncomputable def Qsy(t:TA):TE:=λc H Q=>t c H λa b=>zy9/\∀p,b p=nO->Q (aD p) (upd b p nF)
theorem Qos{j}(h:zi4):PE X (zb0 j) (QsQ t):=by
 show wY a f m;refine wpAny_Tuple_spliced (thn (h pos a s f H _ I m) (aM l c g));obtain⟨i,d,I1,r,z,q⟩:=g;refine⟨nW r z,?_⟩;have n:d c.heap.objs.size=nO:=I1.hok.fresh c8;refine⟨eZ c,upd d c.heap.objs.size (.tup i),I1.laid (t':=c.toks) (HR u) c8 ?_,rfl,q _ n⟩;exact⟨z,l,r,⟨_,dF,rfl,_,rfl⟩⟩
theorem Qjd(h:zi4):PE X zE3 (Qsy t):=by
 show wY a f l;refine wpAny_List_spliced (thn (h pos a s f H _ I l) (aM j c g));obtain⟨i,d,I1,r,z,q⟩:=g;refine⟨nW r z,?_⟩;have m:d c.heap.objs.size=nO:=I1.hok.fresh c8;refine⟨eZ c,upd d c.heap.objs.size (.lst i),I1.laid (t':=c.toks) (HR u) c8 ?_,rfl,q _ m⟩;exact⟨z,j,0,r,dF⟩
#print "-"
noncomputable abbrev Sp:=bA->Hp->VK->XK->Prop
noncomputable abbrev CXT:=kI->Hp->Shared->XK->bJ
structure Env0(P:Program)(w:World)(K:Ng)(mg:eK)(base:Heap)(A:Around)(outer:kI)(s:Shared)(H:Hp):Prop where
 frames:A.frames=sO outer
 mod:Mod K mg base
 bs:∀b o,base.get? b=sO o->c9 s b=sO o/\hH
 bsz:base.objs.size<=s.heap.objs.size
 funs:s.heap.FunFrames base outer
 frf:∀b∈frs outer,hH
 hok:HOk P w H s.heap
 bare:M0 s
def CE(a:kI)(P:Program)(w:World)(H:Hp)(s:Shared)(Q:VK)(u:Value)(b:Shared):Prop:=
 ∃v c,b.os=s.os/\M0 b/\Un (frs a) [] H c s.heap b.heap/\HOk P w c b.heap/\cU v/\Q v c
def CR(CX:CXT)(a:kI)(P:Program)(w:World)(H:Hp)(s:Shared)(Q:VK)(E:XK)(r:Result)(b:Shared):Prop:=
 match r with
 |.ok (.ret u)=>CE a P w H s Q u b
 |.ok _=>False
 |.error e=>CX a H s E e b
structure FnOk(P:Program)(w:World)(K:Ng)(mg:eK)(base:Heap)(CX:CXT)(k:Nat)(f:Addr)(fd:FuncData)(ps:aO)(sp:Sp):Prop where
 len:∀vs H Q E,sp vs H Q E->vs.length=ps.length
 run:∀(A:Around) (outer:kI) (s:Shared) (H:Hp) (args:Args) (us:aX) (vs:bA) (Q:VK) (E:XK),Room k A->Env0 P w K mg base A outer s H->BindsTo s fd args Bo->Vals vs us->sp vs H Q E ->
  codeAny v7 A (.call (aD f) args) (CR CX outer P w H s Q E) s
theorem FnOk.imp{P:Program}{w:World}{K:Ng}{d:eK}{base:Heap}{CX:CXT}{k:Nat}{f:Addr}{fd:FuncData}{ps:aO}{sp c:Sp}(F:FnOk P w K d base CX k f fd ps sp)
  (h:∀b H Q E,c b H Q E->sp b H Q E):FnOk P w K d base CX k f fd ps c:=
 ⟨λb H Q E q=>F.len b H Q E (h _ _ _ _ q),λA a s H args e b Q E j l m g i=>F.run A a s H args e b Q E j l m g (h _ _ _ _ i)⟩
section
variable{X:Cx}{pins:bT}{σ:St}{H:Hp}{s s':Shared}
theorem Inv.env0(I:bW):Env0 X.prog X.w X.K X.mg X.base X.A X.stack s H:=
 ⟨I.ok.frames,I.ok.mod,I.bs,Nn I.ok.bsz I.sz,I.stack,I.stkFree,I.hok,I.bare⟩
theorem Inv.after{Q:VK}{u:Value}(I:bW)(h:CE X.stack X.prog X.w H s Q u s'):EP X pins σ Q u s':=by
 obtain⟨v,f,os,bare,un,c,r,q⟩:=h;show c7 e g d t a s';obtain rfl:a=s.os:=os;exact⟨v,f,I.call (h':=e) (g':=g) (d':=d) (t':=t) (ch:=[]) un c bare (λb z=>absurd z aB),r,q⟩
#print "-"
noncomputable def QkX(sp:Sp)(a:bA)(E:XK)(t:TA):TE:=λb H Q=>t b H λc d=>sp (c++a) d Q E
def Binds(K:Ng)(fd:FuncData)(ps:aO)(b:aX):Prop:=
 ∀(s:Shared) (a:aX),K.In s.heap->(a++b).length=ps.length->BindsTo s fd ⟨a,[]⟩ (ps.zip (a++b))
theorem Binds.all{K:Ng}{fd:FuncData}{ps:aO}(h:∀us:aX,zx4->bindArgs fd zc2=pure Bo):SX:=λs us _ a=>by
 rw[Dd]at a ⊢;exact .of_eq (h us a)
def UV(CX:CXT)(X:Cx)(E:XK):Prop:=∀(a:bT) (c:St) (H:Hp) (s:Shared) (e:Value) (b:Shared),cI a c->CX X.stack H s E e b->X.xe e b
section
variable{X:Cx}{CX:CXT}{k:Nat}{f C:Addr}{fd:FuncData}{ps:aO}{sp:Sp}{dvs:bA}{ds:aX}{E:XK}{x m:Str}{p pos apos:Pos}{e o:Expr}{es:fY}{ta:TE}{t:TA}
theorem Qi5{a:bT}{σ:St}{H:Hp}{s:Shared}{Q:VK}{us:aX}{c:bA}(F:zm5)(j:zD)(n:zz1)(hd:Vals dvs ds)(i:MK)
  (I:cI a σ) (r:Vals c us) (h:sp (c++dvs) H Q E):wpAny bU X.A (call (aD f) us) (EP X a σ Q) X.xe s:=by
 have d:Vals (c++dvs) (us++ds):=r.append hd;have l:(us++ds).length=ps.length:=by show u3 d;exact F.len _ _ _ _ h
 refine wpAny_call (DN (F.run X.A X.stack s H zc2 (us++ds) (c++dvs) Q E j I.env0 (n s us I.kIn l) d h) (aM r g b));cases r with
 |error e=>exact i a σ H s e g I b
 |ok q=>
  cases q with
  |ret u=>exact I.after b
  |next=>exact sW b
  |brk=>exact sW b
  |cont=>exact sW b
theorem Qlo(F:zm5)(l:zD)(v:j1)(n:kO=sO (aD f))(u:DI X.K (aD f)=true)(z:zz1)(hd:Vals dvs ds)(j:MK)
  (B:PA X i1 t) (c:i4:=by decide) (y:Cq:=by rfl) (b:(backTo pos xQ).any (·.1)=false:=by rfl) :
  PE X xC (QkX sp dvs E t):=by
 show dU a g Q;refine EL (QbS I v n ?_ c);refine PySem.W.callWith_K (h₀:=X.base) I.ok.mod.kin u (thn (sL B a g) (aM G J i)) y b;show c7 D L I1 r q i;refine⟨I1.kIn,?_⟩;exact Qi5 F l z hd j I1 r q
theorem QhN(F:zm5)(d:zD)(j:j1)(g:kO=sO (aD f))(i:DI X.K (aD f)=true)(l:zz1)(hd:Vals dvs ds)(c:MK)
  (a:i4:=by decide):PE X zq1 (QkX sp dvs E QrW):=by
 show dU b n Q;refine EL (QbS I j g ?_ a);exact PySem.W.callWith_K0 I.kIn i (Qi5 (us:=[]) F d l hd c I .nil h)
#print "-"
structure FnScope(N P:aO)(sc:Scope):Prop where
 kind:sc.kind=.function
 co:sc.isCoroutine=false
 gen:sc.isGenerator=false
 nd:N.Nodup
 pre:N.take P.length=P
 par:∀x∈P,uK=qP\/uK=kJ
 nofree:∀y∈sc.names,y.2≠.free
theorem QaH{kindOf:S4}{x:Str}:∀{binds:SC} {m:eK},(∀v,(x,v)∉binds)->bindL kindOf binds m x=m x
 |[],_,_=>rfl
 | (n,v)::r,m,h=>by
  unfold bindL;rw[QaH λw hw=>h w (NA _ hw)];split
  ·have:x≠n:=jl5
   simp[this]
  ·rfl
theorem QaJ{kindOf:S4}{x:Str}:∀{binds:SC} {m:eK},(∀v,(x,v)∉binds)->bindC kindOf binds m x=m x
 |[],_,_=>rfl
 | (n,v)::r,m,h=>by
  unfold bindC;rw[QaJ λw hw=>h w (NA _ hw)];split
  ·rfl
  ·have:x≠n:=jl5
   simp[this]
theorem Qa3{kindOf:S4}{x:Str}{v:Value}:∀{P:aO} {a:aX} {i:Nat} {m:eK},P.Nodup->P[i]?=sO x->a[i]?=sO v->kindOf x=qP ->
  bindL kindOf (P.zip a) m x=sO v
 |[],_,_,_,_,h,_,_=>gL h
 |_::_,[],_,_,_,_,h,_=>gL h
 |p::P,w::a,0,m,b,h1,h2,c=>by
  simp at h1 h2;subst h1;subst h2;show bindL kindOf SO m p=_;unfold bindL;rw[QaH jj3,bH c];simp
 |p::P,w::a,i+1,m,b,h1,h2,c=>by
  show bindL kindOf SO m x=_;unfold bindL;exact Qa3 (i:=i) (ES.mp b).2 (bZ h1) (bZ h2) c
theorem QaO{kindOf:S4}{x:Str}{v:Value}:∀{P:aO} {a:aX} {i:Nat} {m:eK},P.Nodup->P[i]?=sO x->a[i]?=sO v->kindOf x≠qP ->
  bindC kindOf (P.zip a) m x=sO v
 |[],_,_,_,_,h,_,_=>gL h
 |_::_,[],_,_,_,_,h,_=>gL h
 |p::P,w::a,0,m,b,h1,h2,c=>by
  simp at h1 h2;subst h1;subst h2;show bindC kindOf SO m p=_;unfold bindC;rw[QaJ jj3,bQ c];simp
 |p::P,w::a,i+1,m,b,h1,h2,c=>by
  show bindC kindOf SO m x=_;unfold bindC;exact QaO (i:=i) (ES.mp b).2 (bZ h1) (bZ h2) c
noncomputable def start(N:aO)(a:bA):St:=a.map sO++List.replicate (N.length-a.length) nO
noncomputable def Qjh(CX:CXT)(P:Program)(w:World)(K:Ng)(mg:eK)(base:Heap)(N:aO)(b:Str)(a:Scope)(f:Addr)(cd:Value)(A:Around)(outer:kI)(s:Shared)(H:Hp)(E:XK):Cx where
 prog:=P
 w:=w
 K:=K
 mg:=mg
 base:=base
 A:=A.deeper zo8
 N:=N
 s₀:=s
 H₀:=H
 env:=jd9
 outer:=outer
 stack:=jd9::outer
 ex:=[]
 calm:=true
 fn:=λ_=>true
 pn:=[]
 xe:=λe d=>wpAny v7 (A.deeper zo8) (leaving zo8 e) (λ_ c=>CX outer H s E e c) (λg c=>CX outer H s E g c) d
theorem QcL{sc:Scope}{n:Nat}{x:Str}(h:uK=kJ):∃c,(cellsFrom n sc.names []).lookup x=sO c:=by
 have q:=ON sc.names n [] (iQ h);exact Ob.mp q
theorem Qgr{CX:CXT}{P:Program}{w:World}{K:Ng}{I:eK}{base:Heap}{N ps:aO}{j:Str}{d:Scope}{f:Addr}{cd:Value}{A:Around}{g:kI}{s J:Shared}{H:Hp}{E:XK}{us:aX}{o:bA}
  (S:FnScope N ps d) (hd:f5) (m:Env0 P w K I base A g s H) (Q:o.length=ps.length) (r:Vals o us)
  (x:InCallC s s.heap.objs.size (bindL zW5 Bo λ_=>nO) (cellsFrom CP d.names []) (bindC zW5 Bo λ_=>nO) J) :
  Inv (Qjh CX P w K I base N j d f cd A g s H E) [] (start N o) H J:=by
 have O:ps.length<=N.length:=by have:=congrArg List.length S.pre;rw[E3]at this;exact Nn zE4 MU
 obtain⟨G,tk,rfl,M⟩:=x.done;have t:∀b:Addr,b∉(Qjh CX P w K I base N j d f cd A g s H E).ex:=λb z=>absurd (show b∈([]:gO)from z) aB
 refine⟨⟨m.mod,S.kind,rfl,rfl,Nv _,λy z c G l=>?_,bG y B,λy c _ h=>?_,λ_=>hd,Around.frames_deeper m.frames,.inr gD,λb z=>absurd z (t b),m.bs,m.bsz,λb _ _=>t b,λb z=>absurd z (t b),m.funs,m.frf⟩,
  rfl,m.bare,Un.kept M,⟨_,x.toInCall.ns,λi y v G l T=>?_⟩,λy c h=>⟨_,x.cell y c h⟩,m.hok.fresh c8,aM y c h,λp D=>absurd (show p∈([]:bT)from D) aB,m.hok.kept M,?_⟩
 ·exact name_of_addr x.apart (Fo G) (Fo l)
 ·have B:zD1=kJ\/zD1=mK:=B
  show i7 B
  ·exact QcL B
  ·exact absurd rfl (S.nofree _ (Fo B))
 ·exact Nw (x.above y c (Fo h))
 ·have F:i<o.length:=by
   unfold start at l
   by_cases F:i<o.length
   ·exact F
   ·rw[Dw (bZ F)]at l;rw[Oq]at l;split at l<;>cases l
  have R:o[i]?=sO v:=by
   unfold start at l;rw[NJ (bZ F),Nq]at l;cases e:o[i]? with
   |none=>show bK e l
   |some a=>show bK e l;rfl
  obtain⟨u,L,rv⟩:=r.get R
  have D:ps[i]?=sO y:=by
   rw[<-S.pre,List.getElem?_take_of_lt (Ni F (Nt Q))];exact G
  have C:ps.Nodup:=by rw[<-S.pre];exact S.nd.sublist (LR _ _)
  refine⟨u,rv,?_⟩
  rcases S.par y (EK D)with k|k
  ·exact .inl ⟨k,Qa3 C D L k⟩
  ·obtain⟨c,e⟩:=QcL (n:=xX) k;refine .inr ⟨eH k,c,e,?_⟩;have q:=x.cell y c e;rw[QaO C D L (by show zD1≠_;rw[k];decide)]at q;exact q
 ·exact m.hok.fresh (Nw (x.above y c (Fo h)))
 ·unfold start;show _=N.length;rw[NK,Ny,List.length_replicate];lia
theorem QpI{CX:CXT}{P:Program}{w:World}{K:Ng}{F:eK}{base:Heap}{k:Nat}{f:Addr}{name d:Str}{h:Arguments}{body:lB}{a:Scope}{U kV D pm g ct oc:Value}{X Z:qB}
  {L:CT} {N ps:aO} {sp:Sp} (lk:lD f=sO ⟨oc,Z,.func zY0,L⟩) (R:Lm K g d=true) (S:FnScope N ps a)
  (len:∀j H Q E,jq5 j)
  (p:∀(A:Around) (c:kI) (s:Shared) (H:Hp) (j:bA) (Q:VK) (E:XK),Room k (A.deeper (envOfC d a s.heap.objs.size f g))->sp j H Q E ->
   ∃t,PSs (Qjh CX P w K F base N d a f g A c s H E) body t/\jd2 l j) :
  FnOk P w K F base CX (k+1) f zY0 ps sp:=by
 refine⟨len,λA c s H args Y j Q E O C hb r B=>?_⟩;have hl:=len _ _ _ _ B;have KX:K.In s.heap:=C.mod.kin.keeps (zA3 C);have M:s.heap.NoLimit:=C.mod.nolimit.keeps (zA3 C)
 have m:∀y∈ps.zip Y,zz2=qP\/(zz2=kJ/\((cellsFrom CP a.names []).lookup y.1).isSome=true):=λ⟨n,v⟩ hy=>by
  rcases S.par n (OB hy).1 with q|q
  ·exact eH q
  ·exact .inr ⟨q,ON _ _ _ (iQ q)⟩
 refine codeAny_call_function O.depth (KX _ _ lk) rfl S.co S.gen rfl (PySem.W.codeRec_of KX R) (hb _ _ _ _ ?_);refine wpAny_newFunctionEnv_cells S.kind m λaa he T x=>?_;subst he;refine⟨M.keeps x.toInCall.keep,codeAny_func ?_⟩;obtain⟨t,ht,hq⟩:=p A c s H j Q E (O.deeper _) B;have I:Inv (Qjh CX P w K F base N d a f g A c s H E) [] (start N j) H T:=Qgr S O.hd C hl r x;refine N8 (ht [] T (start N j) H _ I hq) (λfl G z=>?_) λe G z=>z
 have fin:∀{i:St} {l:Hp} {v:V} {u:Value},Inv (Qjh CX P w K F base N d a f g A c s H E) [] i l G->cU v->Q v l->CE c P w H s Q u G:=
  λ{i l v u} J rv q=>⟨v,l,J.os,J.bare,J.base,J.hok,rv,q⟩
 cases fl with
 |ret u=>
  obtain⟨v,i,l,J,rv,q⟩:=z;exact fin J rv q
 |next=>
  show iO i l J q z;exact fin (v:=V.non) (u:=Value.none) J rfl q
 |brk=>
  obtain⟨_,_,_,q⟩:=z;exact sW q
 |cont=>
  obtain⟨_,_,_,q⟩:=z;exact sW q
section
variable{X:Cx}{x:Str}{p pos:Pos}{e:Expr}{es:fY}{t:TA}{id T:String}{r:bA->fG}
noncomputable def tCB(r:bA->fG)(t:TA):TE:=λa H Q=>t a H λb c=>r b c Q
theorem QhE(w:CallR X sA r)(u:j1)(q:kO=nO)(n:pQ=sO sA)(y:PA X i1 t)(o:pP:=by decide)(c:i4:=by decide)
  (v:Cq:=by rfl) (b:(backTo pos xQ).any (·.1)=false:=by rfl):PE X xC (tCB r t):=by
 show dU a d Q;refine EL (VS I u q n ?_ o c);refine Fw (thn (sL y a d) (aM i j f)) v b;show c7 g z I1 l m f;exact w a j d z g i Q I1 l m
theorem Qel(w:CallR X vQ r)(u:j1)(q:kO=nO)(n:pQ=sO vQ)(y:PA X i1 t)(o:pP:=by decide)(c:i4:=by decide)
  (v:Cq:=by rfl) (b:(backTo pos xQ).any (·.1)=false:=by rfl):PE X xC (tCB r t):=by
 show dU a d Q;refine EL (VS I u q n ?_ o c);refine Eb (thn (sL y a d) (aM i j f)) v b;show c7 g z I1 l m f;exact w a j d z g i Q I1 l m
#print "-"
#print "-L2"
namespace HT
open PySem PyProof.Rows
section
variable{prog:Program}{w:World}{A:Around}{E:bJ}{s:Shared}
theorem cat_tup{t b:Addr}{c ws:aX}{Q:bJ}(q:IsTup s.heap t c.toArray)(r:IsTup s.heap b ws.toArray)(m:c≠[])
  (h1:ws=[]->Q (aD t) s) (h2:ws≠[]->Q d8 { s with heap:=s.heap.push { cls:=i6,data:=.seq (c++ws).toArray } })
  (hsz:c.length+ws.length<=sizeLine):wpAny aT A (binaryOp .Add (aD t) (aD b)) Q E s:=by
 obtain⟨⟨cls,dd,data,j⟩,i,o,n,hd⟩:=id q;obtain⟨⟨p,h,data2,d⟩,a,g,l,f⟩:=id r;simp only at o hd g f;subst o hd g f;have e:c.toArray++ws.toArray=(c++ws).toArray:=aP
 by_cases hw:ws=[]
 ·exact YaC (gN i) (gN a) Oc Yam IE Iv (Ia _ _)
   (tuple_addW1 t b c.toArray ws.toArray n l dd h j d (bZ m) (by simp[hw])) ⟨i,a,h1 hw⟩
 ·refine YaC (gN i) (gN a) Oc Yam IE Iv (Ia _ _)
   (tuple_addW2 t b c.toArray ws.toArray n l dd h j d (bZ m) (by simpa using hw) (by rw[Nr,Nr];exact hsz)) ⟨i,a,?_⟩
  rw[e];exact h2 hw
noncomputable def sIx(n d:Nat):dS->Nat
 |none=>d
 |dY v=>if v<0 then(v+gU).toNat else zJ3
theorem sIx_none(n d:Nat):sIx n d nO=d:=rfl
theorem sIx_nat(n d k:Nat):sIx n d (sO d6)=min k n:=by
 show(if d6<0 then(d6+gU).toNat else min (k:Int).toNat n)=min k n;rw[if_neg aH,Ec]
theorem Qm5(n d:Nat)(hd:d<=n)(o:dS):sIx n d o<=n:=by
 cases o with
 |none=>exact hd
 |some v=>
  show(if v<0 then(v+gU).toNat else zJ3)<=n
  by_cases a:v<0
  ·rw[bH a];lia
  ·rw[bQ a];exact DJ _ _
theorem QgH(v:Int)(n d:Nat):(if v<0 then max (v+gU) 0 else min v gU)=((sIx n d jD:Nat):Int):=by
 show(if v<0 then max (v+gU) 0 else min v gU)=(((if v<0 then(v+gU).toNat else zJ3):Nat):Int)
 by_cases a:v<0
 ·simp only[bH a];lia
 ·simp only[bQ a];lia
theorem QdP(lo a:dS)(n:Nat):Builtin.Slice.sliceAdjust lo a 1 gU=(RT,((sIx n n a:Nat):Int)):=by
 have b:¬(mM<0):=by exact d5
 unfold Builtin.Slice.sliceAdjust;simp only[b,if_false];refine YaZ ?_ ?_
 ·cases lo with
  |none=>rfl
  |some v=>exact QgH v n 0
 ·cases a with
  |none=>rfl
  |some v=>exact QgH v n n
theorem Qdw(i j:Nat):Builtin.Slice.slicePlaces fQ fK 1=j-i:=by
 unfold Builtin.Slice.slicePlaces;have a:mM>0:=by exact d5
 simp only[a,if_true,Int.ediv_one];split<;>lia
theorem U3{v:Value}{o:dS}{Q:dS->eA}(p:IsPart v o)(h:Q o s):wpAny aT A (Builtin.Slice.slicePartIndex v) Q E s:=by
 cases p with
 |none=>exact slicePart_none h
 |int i t=>exact slicePart_int h
theorem sliceApplied_gen{f:Addr}{e d:Value}{lo b:dS}{n:Nat}{Q:Int×Int×Nat->eA}(i:Su f e d)(g:IsPart e lo)(pu:IsPart d b)
  (h:Q (RT,1,sIx n n b-sIx n 0 lo) s):wpAny aT A (Builtin.Slice.sliceApplied (aD f) (pure gU)) Q E s:=by
 obtain⟨os,a,j,c⟩:=id i;unfold Builtin.Slice.sliceApplied Builtin.Slice.sliceFields;refine Na (Na (F0 a c (x:=e) rfl (Na (F0 a c (x:=d) rfl (Na (F0 a c (x:=.none) rfl fP))))));refine Na (slicePart_none ?_);show wpAny _ _ (if(mM==0)=true then _ else _) _ _ s;rw[if_neg aE];refine Na (U3 g (Na (U3 pu (Na fP))));show wpAny _ _ (match Builtin.Slice.sliceAdjust lo b 1 gU with|(lo,b)=>pure (lo,mM,Builtin.Slice.slicePlaces lo b 1)) _ _ s;rw[QdP lo b n];show wpAny _ _ (pure (RT,mM,Builtin.Slice.slicePlaces RT ((sIx n n b:Nat):Int) 1)) _ _ s;rw[Qdw];exact Nh h
theorem Qib(xs:eN)(i k:Nat):((List.range k).filterMap λ(m:Nat)=>xs[(fQ+(m:Int)*1).toNat]?).toArray=((xs.toList.drop i).take k).toArray:=by
 have e:(λ(m:Nat)=>xs[(fQ+(m:Int)*1).toNat]?)=λm=>xs[i+m]?:=by
  funext m;have:(fQ+(m:Int)*1).toNat=i+m:=aQ
  rw[this]
 rw[e];have:=pick_run xs i k;rw[List.filterMap_map]at this;have a:((λx=>xs[x]?)∘λx=>i+x)=λm=>xs[i+m]?:=rfl;rw[a]at this;rw[this]
theorem getItem_tuple_cut{t d:Addr}{items:eN}{l j:Value}{lo b:dS}{Q:bJ}(c:IsTup s.heap t items)(n:Su d l j)(p:IsPart l lo)(pu:IsPart j b)
  (hw:¬(AG=0/\Rq=items.size))
  (h:Q d8 { s with heap:=s.heap.push { cls:=i6,data:=.seq ((items.toList.drop zu2).take Cs).toArray } })
  (hsz:zw1):wpAny aT A (getItem (aD t) (aD d)) Q E s:=by
 have a:sizeOk (.seq ((items.toList.drop zu2).take Cs).toArray):=by
  show((items.toList.drop zu2).take Cs).toArray.size<=sizeLine;rw[Nr,E3,Od,NP];exact Nn (Nn MU qX) hsz
 have r:Rq<=items.size:=Qm5 _ _ c8 b;obtain⟨os,e,g,u⟩:=id n;have i:s.TypeIs (aD d) "slice":=⟨os,e,g⟩
 unfold getItem
 show zv2
 first|refine Na fP|skip
 refine Na (LS c.typeIs aE ?_)
 refine Na (EG (name:=jl6) c.typeIs EH
  (zQ8 c))
 show wpAny _ _ (Builtin.Tuple.tupleItemsOf (aD t)>>=_) _ _ s;show jt9 c i;rw[if_pos aE];refine Na (sliceApplied_gen n p pu ?_)
 have f:¬((((AG:Nat):Int)==0&&mM==1&&Cs==items.size)=true):=by
  intro q;rw[N5,N5]at q;have v:((AG:Nat):Int)=0:=Fc q.1.1;have o:Rq-AG=items.size:=Fc q.2;exact hw ⟨aQ,by exact Dz r (Nn (cL o) qX)⟩
 show wpAny _ _ (if(((AG:Nat):Int)==0&&mM==1&&Cs==items.size)=true then _ else _) _ _ s;rw[bQ f,Qib]
 first
  |exact Na (m:=Ru) (Eo CJ a)
  |exact Na (m:=Ru) (Eo (Na (Nh CJ)) a)
  |exact Na (Na (m:=Ru) (Eo (Nh CJ) a))
  |exact Na (Na (m:=Ru) (Eo CJ a))
#print "-"
#print "-HT"
namespace L2
noncomputable abbrev TO:=St->Hp->(dS->dQ)->Prop
def PO(X:Cx)(e:zc3)(t:TO):Prop:=
 ∀(a:bT) (s:Shared) (b:St) (H:Hp) (Q:dS->dQ),cI a b->t b H Q ->
  wpAny bU X.A (evalPart e X.env) (λu d=>∃o c,hQ a b c d/\IsPart u o/\Q o c) X.xe s
noncomputable def Qkc:TO:=λ_ H Q=>Q nO H
noncomputable def Qpn(t:TE):TO:=λa H Q=>t a H λx b=>∃i,x=aC i/\Q (sO i) b
section
variable{X:Cx}{e:Expr}{te:TE}{lo hi:zc3}{tl th:TO}{pos p2:Pos}
theorem Qkm:PO X nO Qkc:=by
 show dU a b Q;rw[evalPart_none];exact Nh ⟨nO,H,I,.none,h⟩
theorem QlL(h:vT):PO X (sO e) (Qpn te):=by
 intro a s b H Q I hw;rw[evalPart_some];refine thn (h a s b H _ I hw) (aM u j c);show c7 x g I1 d f c;obtain⟨i,rfl,q⟩:=f;show aN t d;exact⟨sO i,g,I1,zO,q⟩
def SlR(X:Cx)(r:V->dS->dS->fG):Prop:=
 ∀(a:bT) (s:Shared) (b:St) (H:Hp) (x:V) (v d c:Value) (lo hi:dS) (f:Addr) (Q:VK),cI a b->mJ->Su f d c->IsPart d lo->IsPart c hi->r x lo hi H Q ->
  ∃T id,typeLookup vQ "__getitem__"=pure (sO sA)/\s.TypeIs v T/\wpAny bU X.A (getItem v (aD f)) sH X.xe s
theorem SlR.or{r i:V->dS->dS->fG}(h:SlR X r)(h':SlR X i):SlR X (λx lo hi H Q=>r x lo hi H Q\/i x lo hi H Q):=by
 intro a s b H x v d c lo hi f Q I g l j pu q
 show i7 q
 ·exact h a s b H x v d c lo hi f Q I g l j pu q
 ·exact h' a s b H x v d c lo hi f Q I g l j pu q
noncomputable def tSl(r:V->dS->dS->fG)(te:TE)(tl th:TO):TE:=λa H Q=>te a H λx d=>tl a d λl c=>th a c λu b=>r x l u b Q
theorem QhS{r:V->dS->dS->fG}(D:SlR X r)(G:vT)(E:PO X lo tl)(B:PO X hi th):PE X (.Subscript e (.Slice lo hi nO p2) pos) (tSl r te tl th):=by
 show dU a d Q;refine Subscript_ (thn (hC G a d) (aM v m f));show c7 x M I1 n t f;refine wpAny_Slice (thn (E a m d M _ I1 t) (aM g j f));show c7 l L I2 y p f;refine thn (B a j d L _ I2 p) λvu c f=>?_;obtain⟨u,i,I3,pu,o⟩:=f;rw[evalPart_none];refine Nh ?_;have I4:Inv X a d i { c with heap:=zl3 }:=I3.kept (t':=c.toks) λb ob q=>Nl _ q;obtain⟨T,id,J,C,F⟩:=D a { c with heap:=zl3 } d i x v g vu l u c.heap.objs.size Q I4 n (Heap.IsSliceOf.new ..) y pu o;show wpAny bU X.A (subscriptTail e (.Slice lo hi nO p2) v (.ref c.heap.objs.size)) (EP X a d Q) X.xe { c with heap:=zl3 };exact tail_any (ops:=[eZ c,v]) C J F (by with_unfolding_all rfl)
noncomputable def Qg6(xs:bA)(lo hi:dS):bA:=(xs.drop jn5).take (HT.sIx xs.length xs.length hi-AA)
theorem WZ(xs:bA)(lo hi:dS):(Qg6 xs lo hi).length<=xs.length:=by
 unfold Qg6;rw[E3,Od];exact Nn MU qX
noncomputable def Qtt(K:Ng):V->dS->dS->fG:=λx lo hi H Q=>∃a b,x=aF a/\vA /\
 ¬(zD2 b=0/\HT.sIx b.length b.length hi=b.length)/\∀p,lL->Q (aD p) (upd H p (.tup (Qg6 b lo hi)))
theorem Qor:SlR X (Qtt X.K):=by
 intro g s t H x v w u lo hi z Q I l p m pu h;obtain⟨a,d,rfl,n,hw,q⟩:=h;cases l;obtain⟨f,r,j,i⟩:=eR n;have c:f.toArray.size=d.length:=jh1
 refine ja8;refine HT.getItem_tuple_cut j p m pu (by rw[c];exact hw) ?_ (Bv c i);rw[c];refine⟨eZ s,_,I.laid (t':=s.toks) (o:=.tup (Qg6 d lo hi)) zx5 c8 ?_,rfl,q _ (I.hok.fresh c8)⟩;exact⟨Nn (WZ d lo hi) i,_,(r.drop jq6).take (HT.sIx d.length d.length hi-zD2 d),YaD _ _⟩
noncomputable def QpQ(K:Ng):R2:=λx y H Q=>∃a b d c,x=aF a/\y=aF b/\SqT K H a d/\SqT K H b c/\d≠[]/\zG4 /\
 (c=[]->Q (aD a) H)/\(c≠[]->∀p,lL->Q (aD p) (upd H p (.tup (d++c))))
theorem Vals.nil_iff{xs:bA}{us:aX}(r:iI):us=[]↔xs=[]:=by
 cases r with
 |nil=>simp
 |cons _ _=>simp
theorem Qj6:OpR X AX (QpQ X.K):=by
 intro f s E H x y v u Q I n m h;obtain⟨a,b,l,j,rfl,rfl,D,C,B,i,r,p⟩:=h;show kR n m;obtain⟨A,d,t,_⟩:=eR D;obtain⟨g,c,p2,_⟩:=eR C;refine HT.cat_tup t p2 (λz=>B (d.nil_iff.mp z)) (λz=>⟨aF a,H,I,rfl,r (c.nil_iff.mp z)⟩) (λz=>?_) (by rw[<-d.length,<-c.length];exact i);refine⟨eZ s,_,I.laid (t':=s.toks) (o:=.tup (l++j)) zx5 c8 ?_,rfl,p (λw=>z (c.nil_iff.mpr w)) _ (I.hok.fresh c8)⟩;exact⟨by rw[NK];exact i,_,d.append c,YaD _ _⟩
#print "-"
noncomputable def ixN(n:Nat)(i:Int):qJ:=if 0<=i then(if i<n then sO i.toNat else nO)else if -gU<=i then sO (i+n).toNat else nO
noncomputable def atI{a:Type}(xs:cE a)(i:Int):j2 a:=(ixN xs.length i).bind λj=>xs[j]?
theorem Qev{n:Nat}{i:Int}{j:Nat}(h:ixN n i=sO j):seqIndex? i n=sO j/\j<n/\-gU<=i/\i<n:=by
 unfold ixN at h
 by_cases b:0<=i
 ·rw[bH b]at h
  by_cases a:i<n
  ·rw[bH a]at h;have e:i.toNat=j:=N2 h;exact⟨by rw[seqIndex_of b a,e],aQ,aQ,a⟩
  ·rw[bQ a]at h;cases h
 ·rw[bQ b]at h
  by_cases a:-gU<=i
  ·rw[bH a]at h;have e:(i+n).toNat=j:=N2 h;exact⟨by rw[YaE (L3.mp b) a,e],aQ,a,aQ⟩
  ·rw[bQ a]at h;cases h
theorem Qcf{a:Type}{xs:cE a}{i:Int}{v:a}(h:atI xs i=sO v):∃j,seqIndex? i xs.length=sO j/\xs[j]?=sO v/\j<xs.length/\-(xs.length:Int)<=i/\i<xs.length:=by
 unfold atI at h;cases e:ixN xs.length i with
 |none=>show bK e h
 |some j=>
  rw[e]at h;obtain⟨f,d,c,b⟩:=Qev e;exact⟨j,f,h,d,c,b⟩
theorem Qks{a:Type}{xs:cE a}{j:Nat}{v:a}(h:xs[j]?=sO v):atI xs fK=sO v:=by
 have b:j<xs.length:=bX h
 have e:ixN xs.length fK=sO j:=by
  unfold ixN;rw[if_pos aH,if_pos aH];simp
 unfold atI;rw[e];exact h
def Qby(b:Expr):Prop:=zX1 o i b
def IxR(X:Cx)(r:R2):Prop:=
 ∀(value slice:Expr) (a:bT) (s:Shared) (b:St) (H:Hp) (x y:V) (v u:Value) (Q:VK),cI a b->mJ->cU y->wK r ->
  subscripted slice false v u=operate [v,u] (getItem v u)->wpAny bU X.A (subscriptTail value slice v u) sH X.xe s
def MtR(X:Cx)(id:String)(r:V->bA->fG):Prop:=
 ∀(a:bT) (s:Shared) (b:St) (H:Hp) (x:V) (c:bA) (v:Value) (d:aX) (Q:VK),cI a b->mJ->Vals c d->r x c H Q ->
  wpAny bU X.A (call sA (v::d)) sH X.xe s
section
variable{X:Cx}{a b:Expr}{ta tb:TE}{pos:Pos}
theorem IxR.or{r g:R2}(h:IxR X r)(h':IxR X g):IxR X (λx y H Q=>wK r\/wK g):=by
 intro value slice c s d H x y v u Q I f e q i
 show i7 q
 ·exact h value slice c s d H x y v u Q I f e q i
 ·exact h' value slice c s d H x y v u Q I f e q i
theorem QpS{r:R2}(j:IxR X r)(m:t5)(l:BK)(i:Qby b):PE X (yQ a b) TC:=by
 show dU c d Q;exact Subscript_ (Qo4 m l I h λv u e x y n I2 g f q=>j a b c e d n x y v u Q I2 g f q (i _ _))
noncomputable def QrA(K:Ng):R2:=λx y H Q=>∃p c i v,x=aF p/\y=aC i/\SqL K H p c/\atI c i=sO v/\Q v H
noncomputable def Qrq(K:Ng):R2:=λx y H Q=>∃p c i v,x=aF p/\y=aC i/\SqT K H p c/\atI c i=sO v/\Q v H
noncomputable def Qq1:R2:=λx y H Q=>∃z i c,x=c4 z/\y=aC i/\zz0/\atI z.cps.toList i=sO c/\Q (.str ⟨#[c]⟩) H
theorem ix_list:IxR X (QrA X.K):=by
 intro value slice c s n H x y v u Q I D C h o;obtain⟨p,N,i,z,rfl,rfl,E,G,q⟩:=h;cases D;show aN t C;obtain⟨l,r,g,O⟩:=f0 E;obtain⟨j,d,M,R,L,J⟩:=Qcf G;show iJ w A f r M;show cP F r;have P:=W2;have fin:EP X c n Q w s:=⟨z,H,I,f,q⟩
 by_cases e:0<=i
 ·have m:i.toNat=j:=by
   rw[seqIndex_of e J]at d;exact N2 d
  exact item_listR g.isList e aH (by rw[m];show kQ A) fin o
 ·have m:(i+(l.toArray.size:Int)).toNat=j:=by
   rw[YaE (L3.mp e) L]at d;rw[Nr,<-F];exact N2 d
  exact OO (x:=w) g.isList.typeIs slot_list_getitem.lookup
   (wpAny_getItem_list_neg (Q:=λr B=>r=w/\EP X c n Q r B) g.isList (L3.mp e) (by rw[Nr]<;>lia) aH (by rw[m];show kQ A) ⟨rfl,fin⟩) o
theorem ix_tup:IxR X (Qrq X.K):=by
 intro value slice c s e H x y v u Q I m l h o;obtain⟨p,G,i,z,rfl,rfl,A,C,q⟩:=h;cases m;show aN t l;obtain⟨n,r,f,J⟩:=eR A;obtain⟨j,E,D,O,N,M⟩:=Qcf C;show iJ w F d r D;show cP B r;have L:=W2;have fin:EP X c e Q w s:=⟨z,H,I,d,q⟩
 exact OO (x:=w) f.typeIs EH.lookup
  (getItem_tuple (j:=j) (Q:=λr g=>r=w/\EP X c e Q r g) f aH aH (Tq B E) (bZ F) ⟨rfl,fin⟩) o
theorem Qmg:IxR X Qq1:=by
 intro value slice d s B H x y v u Q I g f h l;obtain⟨z,i,c,rfl,rfl,D,n,q⟩:=h;show aN t g;show aN C f;obtain⟨j,e,r,F,p,o⟩:=Qcf n;have m:z.cps.toList.length=z.length:=by simp[Str.length]
 rw[m]at e p o;have E:=W2
 exact tail_any (typeIs_str s z t) slot_str_getitem.lookup (getItem_str (c:=c) (by
  have A:decide (i < -(2^63:Int))=false:=decide_eq_false aH;have w:decide (i >= 2^63)=false:=decide_eq_false aH
  rw[A,w,Yan]) (by rw[e];show kQ r) ⟨HS c,H,hG,f9,q⟩) l
noncomputable def rIx(K:Ng):R2:=λx y H Q=>QrA K x y H Q\/Qrq K x y H Q\/Qq1 x y H Q
theorem Qmd:IxR X (rIx X.K):=ix_list.or (ix_tup.or Qmg)
theorem Qdk(its:aX)(n j:Nat)(u:Value):Obj.mapSeq (·.setIfInBounds j u) { cls:=dE,data:=uG }={ cls:=dE,data:=.seq (its.set j u).toArray n }:=by
 simp[Obj.mapSeq]
theorem Inv.lst{c:bT}{σ:St}{H:Hp}{s:Shared}{p:Addr}{xs:bA}(I:cI c σ)(h:H p=sO iK) :
  ∃(its:aX) (n:Nat),q9/\c9 s p=sO { cls:=dE,data:=uG }/\rR:=by
 obtain⟨z,its,n,r,e⟩:=r9 p h;exact⟨its,n,r,e,z⟩
theorem Inv.lstUpd{c:bT}{σ:St}{H:Hp}{s:Shared}{p:Addr}{xs ys:bA}{its its':aX}{n d:Nat}{f:Obj->Obj}(I:cI c σ)(h:H p=sO iK)
  (i:c9 s p=sO { cls:=dE,data:=uG }) (g:f { cls:=dE,data:=uG }={ cls:=dE,data:=.seq its'.toArray d }) (r:Vals ys its') (hz:Sf) (t:Nat) :
  Inv X c σ (upd H p vR) { s with heap:=s.heap.update p f,toks:=t }:=by
 have e:(s.heap.update p f).get? p=sO { cls:=dE,data:=.seq its'.toArray d }:=by
  rw[Eh f i (by rw[g]<;>rfl),g]
 refine I.write (x:=p) (e:=p) (by rw[h];trivial) fA (λb u j q=>(EM _ _ (EI j)).trans q) ⟨_,e⟩ ?_;exact⟨hz,its',d,r,e⟩
noncomputable def QmQ:jh0:=λo i v H Q=>∃p c k j,o=aF p/\i=aC k/\H p=zc4/\ixN c.length k=sO j/\Q (upd H p (.lst (c.set j v)))
theorem set_list:QrP X QmQ:=by
 intro c s A H o i v G J u Q I C D rv h;obtain⟨p,B,k,j,rfl,rfl,w,F,q⟩:=h;cases C;show aN t D;obtain⟨d,n,r,g,E⟩:=I.lst w;obtain⟨e,M,y,x⟩:=Qev F;show cP l r;have L:=W2
 have z:Inv X c A (upd H p (.lst (B.set j v))) { s with heap:=s.heap.update p (Obj.mapSeq (·.setIfInBounds j u)) }:=
  I.lstUpd w g (Qdk d n j u) (r.set rv j) (by rw[DV];exact E) s.toks
 by_cases f:0<=k
 ·have m:k.toNat=j:=by
   rw[seqIndex_of f x]at e;exact N2 e
  exact PySem.W.ki_setAt g f aH (Tq l x) jh2
 ·have m:(k+zw2).toNat=j:=by
   rw[YaE (L3.mp f) y]at e;rw[Nr,<-l];exact N2 e
  exact PySem.W.ki_setBack g (L3.mp f) (Tq l y) aH jh2
theorem Qa6(lo c:dS)(n:Nat):(sliceBounds lo c nO n).1=((HT.sIx n 0 lo:Nat):Int)/\(sliceBounds lo c nO n).2.1=((HT.sIx n n c:Nat):Int)/\(sliceBounds lo c nO n).2.2=1:=by
 refine⟨?_,?_,rfl⟩
 ·cases lo with
  |none=>simp[sliceBounds,HT.sIx]
  |some i=>
   show zO6
   ·simp only[h,if_true]<;>lia
   ·simp only[h,if_false]<;>lia
 ·cases c with
  |none=>simp[sliceBounds,HT.sIx]
  |some i=>
   show zO6
   ·simp only[h,if_true]<;>omega
   ·simp only[h,if_false]<;>omega
theorem GC(its:aX)(lo c:dS):slicePick its.toArray lo c nO=((its.drop (HT.sIx its.length 0 lo)).take (HT.sIx its.length its.length c-HT.sIx its.length 0 lo)).toArray:=by
 obtain⟨f,e,d⟩:=Qa6 lo c its.toArray.size;unfold slicePick;rw[f,e,d];simp only[sliceRange_one,pick_run,Nr]<;>rfl
noncomputable def QsE(K:Ng):V->dS->dS->fG:=λx lo d H Q=>∃a c,x=aF a/\SqL K H a c/\∀p,lL->Q (aD p) (upd H p (.lst (Qg6 c lo d)))
theorem sl_list:SlR X (QsE X.K):=by
 intro f s t H x v w u lo e z Q I j p l pu h;obtain⟨a,d,rfl,n,q⟩:=h;cases j;obtain⟨m,r,i,g⟩:=f0 n;show cP c r;refine⟨"list",_,slot_list_getitem.lookup,i.isList.typeIs,?_⟩;refine wpAny_getItem_list_slice i.isList p l pu .none aB ?_ (by rw[Nr]<;>exact Nn (cL c) g);rw[GC,<-c];refine⟨eZ s,_,I.laid (t':=s.toks) (o:=.lst (Qg6 d lo e)) zx5 c8 ?_,rfl,q _ (I.hok.fresh c8)⟩;exact⟨Nn (WZ d lo e) g,_,0,(r.drop jq6).take (HT.sIx d.length d.length e-zD2 d),dF⟩
noncomputable def QjV:V->Bool
 |.non=>true
 |.bl _=>true
 |nP=>true
 |lM=>true
 |_=>false
noncomputable def eqV:V->V->Bool
 |.non,.non=>true
 |.bl a,.bl b=>a==b
 |.bl a,aC b=>(A' a)==b
 |aC a,.bl b=>a==(A' b)
 |aC a,aC b=>a==b
 |c4 a,c4 b=>a==b
 |_,_=>false
theorem Qnx{A:Around}{s:Shared}{y x:V}{u v:Value}(e:cU y)(c:mJ)(g:QjV y=true)(f:QjV x=true):SeqAt.EqAt A s u v (eqV y x):=by
 cases y with
 |non=>
  cases e;cases x with
  |non=>cases c;exact SeqAt.EqAt.same _
  |bl b=>cases c;exact SeqAt.EqAt.none_bool b
  |int b=>show aN t c;exact SeqAt.EqAt.none_int b t
  |str b=>show aN t c;exact SeqAt.EqAt.none_str b t
  |_=>exact CA f
 |bl a=>
  cases e;cases x with
  |non=>cases c;exact SeqAt.EqAt.bool_none a
  |bl b=>cases c;exact SeqAt.EqAt.bool_bool a b
  |int b=>show aN t c;exact SeqAt.EqAt.bool_int a b t
  |str b=>show aN t c;exact SeqAt.EqAt.bool_str a b t
  |_=>exact CA f
 |int a=>
  show aN d e;cases x with
  |non=>cases c;exact SeqAt.EqAt.int_none a d
  |bl b=>cases c;exact SeqAt.EqAt.int_bool a d b
  |int b=>show aN t c;exact SeqAt.EqAt.int_int a d b t
  |str b=>show aN t c;exact Yay a d b t
  |_=>exact CA f
 |str a=>
  show aN d e;cases x with
  |non=>cases c;exact SeqAt.EqAt.str_none a d
  |bl b=>cases c;exact SeqAt.EqAt.str_bool a d b
  |int b=>show aN t c;exact Yaz a d b t
  |str b=>show aN t c;exact SeqAt.EqAt.str_str a d b t
  |_=>exact CA f
 |_=>exact CA g
theorem call_len_seq:CallR X SQ (λxs H Q=>∃p ys,xs=[aF p]/\(Bp p\/yU p)/\Q (.int ys.length) H):=by
 intro i s m H xs n Q I r h;obtain⟨p,ys,rfl,d,q⟩:=h;show lZ j r;cases j;have o:=W2
 show i7 d
 ·obtain⟨g,e,f,l⟩:=f0 d;show cP c e;exact Calls.call_len_list f.isList (by simp only[Nr]<;>lia) ⟨.int ys.length,H,hG,⟨nG,by rw[Nr,c]⟩,q⟩
 ·obtain⟨g,e,f,l⟩:=eR d;show cP c e;exact len_tuple f (by simp only[Nr]<;>omega) ⟨.int ys.length,H,hG,⟨nG,by rw[Nr,c]⟩,q⟩
theorem Qau:CallR X SQ (λxs H Q=>∃z,xs=[c4 z]/\zz0/\Q (.int z.length) H):=by
 intro c s d H xs e Q I r h;obtain⟨z,rfl,f,q⟩:=h;obtain⟨u,rfl,t,rfl⟩:=KH r;have g:=W2;exact len_str aH ⟨.int z.length,H,hG,f9,q⟩
theorem CallR.or{f:Value}{r i:bA->fG}(h:CallR X f r)(h':CallR X f i):CallR X f (λxs H Q=>r xs H Q\/i xs H Q):=by
 intro c s d H xs e Q I g q
 show i7 q
 ·exact h c s d H xs e Q I g q
 ·exact h' c s d H xs e Q I g q
theorem YH:CallR X rZ (λxs H Q=>∃p ys,xs=[aF p]/\(Bp p\/yU p)/\∀l,H l=nO->Q (aD l) (upd H l vR)):=by
 intro m s B H xs D Q I r h;obtain⟨p,ys,rfl,v,q⟩:=h;show lZ C r;cases C
 have fin:∀(c:aX),Vals ys c->Sf->∀(f:Heap) (j:Nat),(∀b A,c9 s b=sO A->fU f=sO A) ->
   xY f s=sO { cls:=dE,dict:=nO,data:=.seq c.toArray j,slots:=#[] }->EP X m B Q d8 { s with heap:=f }:=λc g i f j t e=>
  ⟨eZ s,_,I.laid (t':=s.toks) t c8 (show ObjOk X.prog X.w _ f _ vR from⟨i,c,j,g,e⟩),rfl,q _ (I.hok.fresh c8)⟩
 show i7 v
 ·obtain⟨c,g,x,i⟩:=f0 v;show cP d g;obtain⟨o,y,z,n,hd⟩:=x.isList;exact call_list_seq p fA y z hd je0 (by simp only[Nr]<;>exact Nn (cL d) i)
 ·obtain⟨c,g,x,i⟩:=eR v;show cP d g;obtain⟨o,y,z,n,hd⟩:=x;exact call_list_seq p vF y z hd je0 (by simp only[Nr]<;>exact Nn (cL d) i)
theorem Gc:CallR X yG (λxs H Q=>∃p ys,xs=[aF p]/\((Bp p/\∀l,H l=nO->Q (aD l) (upd H l (.tup ys)))\/(yU p/\Q (aD p) H))):=by
 intro c s t H xs z Q I r h;obtain⟨p,ys,rfl,h⟩:=h;show lZ x r;cases x
 rcases h with⟨n,q⟩|⟨n,q⟩
 ·obtain⟨d,i,j,m⟩:=f0 n;show cP f i;refine call_tuple_list j.isList (λg y=>?_) (by simp only[Nr]<;>exact Nn (cL f) m);have I1:Az c t g:=zc5 I s y
  have I2:Inv X c t (upd H g.objs.size (.tup ys)) { s with heap:=g.push { cls:=i6,data:=Bq d } }:=
   I1.laid (t':=s.toks) (HR o) c8 (show ObjOk X.prog X.w _ _ _ (.tup ys)from⟨m,d,i,YaD _ _⟩)
  exact⟨.ref g.objs.size,_,I2,rfl,q _ (I1.hok.fresh c8)⟩
 ·obtain⟨d,i,j,m⟩:=eR n;exact call_tuple_same j ⟨aF p,H,I,rfl,q⟩
def tyV(K:Ng)(T:String)(x:V)(H:Hp):Prop:=match x with
 |lM=>T="str"
 |nP=>T="int"
 | aF p=>(T="list"/\∃d,SqL K H p d)\/(T="tuple"/\∃o,lD p=sO o/\o.cls=i6/\o.dict=nO) \/
   (T="dict"/\((∃c,H p=sO (.dK c))\/∃c,H p=sO (.dT c)))\/(T="set"/\∃S n,H p=sO (.set S n))
 |_=>False
theorem Qep{g:bT}{σ:St}{H:Hp}{s:Shared}{T:String}{x:V}{v:Value}(I:cI g σ)(r:mJ)(ty:tyV X.K T x H) :
  s.TypeIs v T/\∀a,v=aF a->∃ob,c9 s a=sO ob/\ob.dict=nO:=by
 cases x with
 |str z=>
  show aN t r;cases(show T="str"from ty);exact⟨typeIs_str s z t,yO e⟩
 |int i=>
  show aN t r;cases(show T="int"from ty);exact⟨typeIs_int s i t,yO e⟩
 | ref p=>
  cases r
  rcases ty with⟨rfl,w,q⟩|⟨rfl,o,d,u,hd⟩|⟨rfl,d⟩|⟨rfl,S,n,d⟩
  ·obtain⟨m,_,l,_⟩:=f0 q;refine⟨l.isList.typeIs,bG a e⟩;cases e;obtain⟨o,n,e,c,hd,_⟩:=l;exact⟨o,e,hd⟩
  ·refine⟨⟨o,I.kIn p o d,u⟩,bG a e⟩;cases e;exact⟨o,I.kIn _ o d,hd⟩
  ·have z:∃o,c9 s p=sO o/\o.ExactDict:=by
    rcases d with⟨h,d⟩|⟨h,d⟩
    show zT6
    show zT6
   show fT o e f z;refine⟨Cm e f,bG a j⟩;cases j;exact⟨o,e,f.2.1⟩
  ·obtain⟨o,_,_,_,e,f,_⟩:=r9 p d;refine⟨Cm e f,bG a j⟩;cases j;exact⟨o,e,f.2.1⟩
 |_=>exact False.elim ty
noncomputable def Qtj(K:Ng)(T:String)(r:V->bA->fG)(e:TE):TE:=λd H Q=>e d H λx c=>tyV K T x c/\r x [] c Q
noncomputable def tBM(K:Ng)(T:String)(r:V->bA->fG)(f:TE)(t:TA):TE:=λc H Q=>f c H λx d=>tyV K T x d/\t c d λe g=>r x e g Q
variable{o e:Expr}{es:fY}{to:TE}{t:TA}{name:Str}{apos cpos:Pos}{T id:String}{r:V->bA->fG}
theorem Qov(p:X')(slot:Tw)(g:Po)(u:MtR X id r)(q:PE X o to)
  (f:Pn:=by rfl) (d:CD:=by rfl):PE X (.Call RA [] [] cpos) (Qtj X.K T r to):=by
 show dU c i Q;refine Os f d (thn (hC q c i) (aM v m l));obtain⟨x,z,I1,j,ty,n⟩:=l;obtain⟨y,w⟩:=Qep I1 j ty;exact⟨T,id,p,slot,g,y,w,IF rfl (Yat (u c m i z x [] v [] Q I1 j .nil n))⟩
theorem QqJ(C:X')(slot:Tw)(m:Po)(F:MtR X id r)(E:PE X o to)(G:PA X i1 t)
  (g:Pn:=by rfl)
  (i:((backTo cpos (starEach i1 X.env)).all zb1&&zl5
   && zM9)=true:=by rfl)
  (f:CD:=by rfl) (D:Cq:=by rfl) (d:(backTo cpos xQ).any (·.1)=false:=by rfl) :
  PE X (.Call RA i1 [] cpos) (tBM X.K T r to t):=by
 show dU c j Q;refine wpAny_Call_method_late g i f rfl (thn (hC E c j) (aM v y l));obtain⟨x,N,I1,n,ty,B⟩:=l;obtain⟨L,J⟩:=Qep I1 n ty;refine⟨T,id,C,slot,m,L,J,?_⟩;have p:=G cpos c y j N _ I1 B;rw[D]at p ⊢;refine IF (by show(false ||(backTo cpos xQ).any (·.1))=false;rw[d]<;>rfl) (Calls.evalArgs_plain ?_);refine thn p (aM u w l);show c7 q M I2 z A l;exact F c w j M x q v u Q I2 n z A
#print "-"
def MtM(X:Cx)(id:String)(r:V->bA->fG):Prop:=
 ∀(a:bT) (s:Shared) (b:St) (H:Hp) (x:V) (c:bA) (v:Value) (d:aX) (Q:VK),cI a b->mJ->Vals c d->r x c H Q ->
  wpAny bU X.A (call sA (v::d)) sH X.xe s
theorem Vals.one{x:V}{us:aX}:Vals [x] us->∃u,us=[u]/\cU x:=by
 rintro(_|⟨r,_|_⟩);exact⟨_,rfl,r⟩
theorem Vals.zero:∀{us:aX},Vals [] us->us=[]
 |_,.nil=>rfl
theorem Vals.dropLast{xs:bA}{us:aX}(h:iI):Vals xs.dropLast us.dropLast:=by
 induction h with
 |nil=>exact .nil
 |cons r t a=>
  cases t with
  |nil=>exact .nil
  |cons q b=>exact .cons r a
theorem Vals.eraseIdx:∀{xs:bA} {us:aX} (i:Nat),iI->Vals (xs.eraseIdx i) (us.eraseIdx i)
 |_,_,_,.nil=>.nil
 |_,_,0,.cons _ t=>t
 |_,_,i+1,wJ r=>.cons r (Vals.eraseIdx i t)
theorem Vals.reverse{xs:bA}{us:aX}(h:iI):Vals xs.reverse us.reverse:=by
 induction h with
 |nil=>exact .nil
 |cons r t a=>rw[Iz,Iz];exact Vals.append a (ML r)
theorem QdN{c:Type}(l:cE c):l.eraseIdx (l.length-1)=l.dropLast:=by
 induction l with
 |nil=>rfl
 | cons a r d=>
  cases r with
  |nil=>rfl
  | cons b r=>
   have e:(a::b::r).length-1=((b::r).length-1)+1:=by
    have g:(a::b::r).length=r.length+2:=rfl;have f:(b::r).length=r.length+1:=rfl;exact rfl
   rw[e,List.eraseIdx_cons_succ,d]
   all_goals rfl
section
variable{X:Cx}{pins:bT}{σ:St}{H:Hp}{s:Shared}{l b:Addr}{xs ys zs:bA}
theorem Inv.lset{its its':aX}{n:Nat}{f:eN->eN}{t':Nat}(I:bW)(h:H l=sO iK)
  (e:c9 s l=sO { cls:=dE,data:=uG }) (d:f its.toArray=its'.toArray) (a:Vals ys its') (hz:Sf) :
  Inv X pins σ (upd H l vR) { s with heap:=s.heap.update l (Obj.mapSeq f),toks:=t' }:=by
 have q:=Ya1 e f;rw[d]at q;refine I.write (x:=l) (e:=l) (by rw[h];exact trivial) fA (λi u g c=>(EM s.heap (Obj.mapSeq f) (EI g)).trans c) ⟨_,q⟩ ?_;exact⟨hz,its',_,a,q⟩
theorem Inv.lnew{its:aX}{t':Nat}(I:bW)(a:Vals ys its)(hz:Sf) :
  Inv X pins σ (upd H s.heap.objs.size vR) { s with heap:=s.heap.push { cls:=dE,data:=.seq its.toArray },toks:=t' }:=
 I.laid Sy c8 ⟨hz,its,0,a,dF⟩
theorem Inv.fresh(I:bW):H s.heap.objs.size=nO:=I.hok.fresh c8
theorem Inv.lstM(I:bW)(a:H l=sO iK):rR/\∃(its:aX) (n:Nat),q9/\xs.length=its.length/\c9 s l=sO { cls:=dE,data:=uG }:=by
 obtain⟨z,its,n,r,e⟩:=r9 l a;exact⟨z,its,n,r,r.length,e⟩
theorem QiF{n:Nat}(h:zc6):Builtin.List.listTooLong n=false:=by
 unfold Builtin.List.listTooLong;exact decide_eq_false (NZ.mpr h)
#print "-"
section
variable{X:Cx}
noncomputable def QlM:V->bA->fG:=λx b H Q=>∃l a y,x=aF l/\b=[y]/\H l=sO nF/\SD/\Q .non (upd H l (.lst (a++[y])))
theorem Qen:MtM X "list.append" QlM:=by
 intro b s m H x p v t Q I g rv h;obtain⟨l,o,y,rfl,rfl,f,d,q⟩:=h;cases g;obtain⟨u,rfl,i⟩:=rv.one;obtain⟨z,a,n,r,j,e⟩:=I.lstM f;refine IV NX (gN e) Yau (Yab _ _) (YaT l a.toArray n u (by rw[Nr];exact Nw (Np (cL j) d))) ⟨e,?_⟩;refine⟨.non,_,I.lset (its':=a++[u]) f e aB (r.append (ML i)) ?_,rfl,q⟩;rw[NK,Ei];exact d
noncomputable def Qj3:V->bA->fG:=λx d H Q=>∃l b c a,x=aF l/\d=[aF b]/\H l=zc4/\H b=sO nF/\jj2/\Q .non (upd H l (.lst (c++a)))
theorem Qfn:MtM X "list.extend" Qj3:=by
 intro g s C H x J v L Q I m rv h;obtain⟨l,b,G,D,rfl,rfl,j,hB,w,q⟩:=h;cases m;obtain⟨u,rfl,o⟩:=rv.one;cases o;obtain⟨z,c,n,r,A,e⟩:=I.lstM j;obtain⟨E,a,t,p,y,B⟩:=I.lstM hB;have f:c.toArray.size+a.toArray.size<=sizeLine:=by rw[Nr,Nr];lia
 have d:¬(!c.toArray.isEmpty&&Builtin.List.listTooLong (c.toArray.size+a.toArray.size))=true:=by
  rw[QiF f,Ip];exact Ea
 refine IV IG (gN e) F.entry_list_extend (F.args_list_extend_2 _ _)
  (AutoSeq1.list_extend_list_list_0 l c.toArray n b a.toArray t d (by rw[Nr];exact Nn (cL A) z) (Nn f cJ)) ⟨e,B,?_⟩
 refine⟨.non,_,I.lset (its':=c++a) j e aB (r.append p) ?_,rfl,q⟩;rw[NK];exact w
noncomputable def Qsj:V->bA->fG:=λx b H Q=>∃l a y,x=aF l/\b=[]/\H l=sO nF/\a[a.length-1]?=sO y/\Q y (upd H l (.lst a.dropLast))
theorem Qmv:MtM X "list.pop" Qsj:=by
 intro d s t H x A v B Q I j rv h;obtain⟨l,w,y,rfl,rfl,i,o,q⟩:=h;cases j;have c:=rv.zero;subst c;obtain⟨z,a,n,r,g,e⟩:=I.lstM i;show iJ u p m r o
 have b:a.toArray[a.toArray.size-1]?=sO u:=by
  show a.toArray[a.length-1]?=sO u;rw[<-N1,<-g];exact p
 refine IV Fe (gN e) F.entry_list_pop (F.args_list_pop_1 _) (MeetsSeq.list_pop_last l a.toArray n u b (by rw[Nr];exact Nn (cL g) z)) ⟨e,?_⟩;refine⟨y,_,I.lset (its':=a.dropLast) i e ?_ r.dropLast ?_,m,q⟩
 ·show a.toArray.eraseIdxIfInBounds (a.toArray.size-1)=a.dropLast.toArray;rw[Nr,List.eraseIdxIfInBounds_toArray,QdN]
 ·rw[List.length_dropLast];exact Nn qX z
noncomputable def Qth:R2:=λx y H Q=>∃l b c a,x=aF l/\y=aF b/\H l=zc4/\H b=sO nF/\jj2/\∀p,lL->Q (aD p) (upd H p (.lst (c++a)))
theorem Qnw:OpR X AX Qth:=by
 intro d s w H x y v u Q I g f h;obtain⟨l,b,C,A,rfl,rfl,o,hB,j,q⟩:=h;show kR g f;obtain⟨z,c,n,r,F,e⟩:=I.lstM o;obtain⟨B,a,E,i,m,t⟩:=I.lstM hB;refine PySem.P.add_list e t ?_ (by rw[Nr,Nr];omega);have p:c.toArray++a.toArray=(c++a).toArray:=aP
 rw[p];exact⟨A3,_,I.lnew (t':=s.toks) (r.append i) (by rw[NK];exact j),rfl,q _ I.fresh⟩
#print "-"
#print "-L2"
namespace Att
open PySem PySem.W PySem.Calls PyProof.Rows
theorem WR{P:Params}{h:Heap}:∀(ns:dO) (c:aX),WellAll P h c (ns.map WData.int)->BJ c:=by
 intro ns
 induction ns with
 |nil=>
  intro c w;show bK E7 w;exact .nil
 | cons n ns d=>
  intro c w;rw[ND]at w;cases w with
  |cons a b=>
   cases a;exact .cons _ _ (d _ b)
theorem Qef{l:OpenLaw}{n:Nat}(v:l.most=sO n){P:Params}{h:Heap}{args:List WData}{vals:aX}
  (b:l.row.toRowW.claim.pre args=true) (i:WellAll P h vals args) :
  ∃a m ns,vals=[fJ a]/\args=[WData.list (ns.map WData.int)]/\cQ a=sO { cls:=dE,data:=Bq m }/\BJ m/\YP:=by
 have j:WShape.hasAll [] args [.list .int]=true:=(pre_splitW b).1;have o:l.pre.holds [] { args:=args }=true:=(pre_splitW b).2;obtain⟨d,r,rfl,y,x⟩:=hasAllW_cons j;obtain rfl:=hasAllW_nil x;obtain⟨z,rfl,w⟩:=hasW_list y;obtain⟨ns,rfl⟩:=items_int w
 have c:YP:=by
  unfold OpenLaw.pre at o
  have g:(WTm.not (.lt (.lit (.int gU)) (.len (.arg 0)))).holds [] { args:=[.list l4] }=true:=by
   have g:=(holds_andW o).1;rw[v]at g;exact g
  have f:=condW_of g (w_not (w_lt w_lit (w_len_list (w_arg rfl))));rw[Ny]at f;refine Nat.le_of_not_lt (k3 q);have t:gU<((ns.length:Nat):Int):=cC
  first
   |(rw[m2 t]at f;exact absurd f aE)
   |(simp at f;omega)
 cases i with
 |cons s p=>
  cases p;cases s with
  |list u e=>exact⟨_,_,ns,rfl,rfl,u,WR ns _ e,c⟩
theorem Qgh(l:OpenLaw)(args:List WData):l.row.toRowW.claim.post args HJ args=true:=
 postW_of (r:=l.row.toRowW) (X:=(true==true))
  (show WShape.has [] HJ .bool=true by first|rfl|decide|simp[WShape.has,WShape.arms,WShape.armsAll])
  (show(WTm.eq .res (.lit HJ)).value [] { args:=args,res:=sO HJ,after:=args }=sO (.bool (true==true))from w_eq_bool (w_res rfl) w_lit) rfl
theorem attach_call{l:OpenLaw}{n:Nat}{q:Program}{e:aO}{E:(Str->yR)->vI}{D:World->vI}{d:DefRec}
  (J:l.most=sO n) (z:zw3)
  (call:∀(w:World) (c b:Shared) (u v:eK) (s:Addr) (o:Obj) (pm cd h:Value) (a:Addr) (i:aX) (ns:dO),
   Ground q e [] E w c u v b.heap->D w b.heap ->
   c9 b s=sO o->o.data=.func (docDef d.name d.params d.body d.scope pm cd h)->b.heap.CodeRec cd d.name->u d.name=sO (aD s) ->
   c9 b a=sO { cls:=dE,data:=Bq i }->BJ i->YP->b.gens=#[] ->
   codeAny (model l.prog w) callerA (.call (aD s) ⟨[aF a],[]⟩) (zk9 t b) b) :
  WalkO q e E D l.row.toRowW d [] (λf i=>Yba f i):=by
 intro w c b u v G Y s o pm cd h R kV I hd A C y N args vals as j B F x M;obtain rfl:R=.none:=Dflts.none C z;obtain rfl:kV=.none:=Dflts.noKw C;obtain⟨a,i,ns,rfl,rfl,m,g,p⟩:=Qef J j x;refine enter_call (DN (call w c b u v s o pm cd h a i ns G Y I (fd_plain hd) A y m g p N) (aM r t H));obtain⟨rfl,Q,P,O⟩:=H;exact⟨.inl ⟨.bool true,.bool true,[],rfl,dG,.bool true,Qgh l _,λ_=>⟨List.Pairwise.nil,λ_ L=>(nomatch L)⟩⟩,Q,P,O⟩
#print "-Att"
namespace L2
theorem Qgt{a:aX}{ns:dO}(h:BJ a):Vals (oG V) a:=by
 induction h with
 |nil=>exact .nil
 |cons _ t _ i=>exact .cons qC i
def QpG(H:Hp):Prop:=∀b,hH\/∃o a,H b=sO (.frz o nF)
theorem Qhr{P:Program}{w:World}{K:Ng}{y N:eK}{CX:CXT}{k:Nat}{T a:Addr}{fd:FuncData}{x:Str}{sp:Sp}{c:Shared}{l:aX}{ns:dO}
  (KX:K.In c.heap) (D:c.heap.Ns mainGlobals y) (g:c.heap.Ns builtinsNs N) (R:∀x:Str,pP->N x=pQ) (E:c.heap.NoLimit) (hg:c.gens=#[])
  (L:c9 c a=sO { cls:=dE,data:=Bq l }) (Y:BJ l) (X:ns.length<=sizeLine) (hr:zH0)
  (F:∀base:Heap,K.In base->zA6 y->FnOk P w K y base CX k T fd [x] sp) (p:∀(s:Shared) (u:Value),jd3)
  (O:∀H:Hp,QpG H->SqL K H a (oG V)->sp [aF a] H (λv _=>v=g7) zH1)
  (S:∀H e i,CX [] H c (λ_ _ _=>False) e i->False) :
  codeAny v7 callerA (.call (aD T) ⟨[aF a],[]⟩) (zk9 i c) c:=by
 have rv:=Qgt Y;show cP A Y
 have core:∀H:Hp,QpG H->SqL K H a (oG V)->HOk P w H c.heap->(∀b,H b≠nO->b=a)->(H a≠nO->lD a=nO) ->
   codeAny v7 callerA (.call (aD T) ⟨[aF a],[]⟩) (zk9 i c) c:=by
  intro H Z hS C hA hK;have f:∀{b:Addr} {o:Obj},c9 c b=sO o->hH->(Qiy c.heap H).get? b=sO o:=λe n=>QgP e n
  have M:∀{b:Addr} {o:Obj} {I:Tf} {J:Nat},c9 c b=sO o->o.data=.dict I J->hH:=λ{b o I J} e d=>by
   cases q:H b with
   |none=>rfl
   |some u=>
    have U:b=a:=hA b (zB q);subst U;show bK L e;have d':Data.seq l.toArray _=Data.dict I J:=d;cases d'
  have j:∀{b:Addr} {m:eK},c.heap.Ns b m->(Qiy c.heap H).Ns b m:=λ{b m} ⟨o,I,J,e,d,r⟩=>⟨o,I,J,f e (M e d),d,r⟩
  have G:K.In zE5:=λb o e=>f (KX b o e) (by
   cases q:H b with
   |none=>rfl
   |some u=>
    have U:b=a:=hA b (zB q);subst U
    rw[hK (zB q)]at e;cases e)
  have hM:Mod K y zE5:=⟨G,j D,⟨N,j g,R⟩,let⟨mc,h1,h2⟩:=E;⟨mc,j h1,h2⟩⟩
  have e0:Env0 P w K y zE5 callerA [] c H:=⟨rfl,hM,λb o e=>Qka e,Nt (Qfh _ _),trivial,λb g=>absurd (show b∈([]:gO)from g) aB,C,.of_eq hg⟩
  refine DN ((F _ G (j D)).run callerA [] c H ⟨[aF a],[]⟩ [aF a] [aF a] _ _ hr e0 (p c (aD a)) (.cons rfl .nil) (O H Z hS)) (aM r i h);cases r with
  |error e=>exact(S H e i h).elim
  | ok fl=>
   cases fl with
   |next=>exact sW h
   |brk=>exact sW h
   |cont=>exact sW h
   | ret u=>
    obtain⟨v,H',os,bare,un,B,r',q⟩:=h;have q':v=g7:=q;subst q';obtain rfl:u=Value.bool true:=r';refine⟨rfl,OldK.of_keep (aM b o e),os,bare⟩;cases q:H b with
    |none=>exact un.keep b o e q (by intro z;exact absurd (show b∈([]:gO)from z) aB) aB
    |some u=>
     rcases Z b with z|⟨ob,xs,z⟩
     ·show bK q z
     ·have z2:=un.frzs b ob _ z;obtain⟨e1,_⟩:=C b _ z;obtain⟨e2,_⟩:=B b _ z2;show bK e e1;exact e2
 cases Q:lD a with
 |some o=>
  have e:=KX a o Q;show bK L e;refine core (λ_=>nO) (λ_=>wA) (.inr ⟨_,l.toArray,_,Q,rfl,rfl,rfl,by rw[Nr,A];exact X,by simpa using rv⟩) (λb u z=>by have t:(nO:zi2)=sO u:=z;cases t) (λb z=>MM z) λz=>MM z
 | none=>
  refine core (λb=>if b=a then sO (.frz { cls:=dE,data:=Bq l } (.lst (oG V)))else nO) (λb=>?_) (.inl (.inr ⟨{ cls:=dE,data:=Bq l },fO⟩)) (jZ b u z) (λb z=>?_) λ_=>Q
  ·by_cases g:b=a
   ·exact .inr ⟨_,_,bH g⟩
   ·exact .inl (if_neg g)
  ·by_cases g:b=a
   ·have t:=(if_pos g).symm.trans z;cases t;subst g;exact⟨L,zJ5 X,l,_,rv,L⟩
   ·have t:=(if_neg g).symm.trans z;cases t
  ·by_cases g:b=a
   ·exact g
   ·exact absurd (if_neg g) z
noncomputable abbrev KOf{K:Ng}{h:Heap}(_:A4):Ng:=K
theorem QlV{l:PySem.W.OpenLaw}{n k:Nat}{q:Program}{i:aO}{X:(Str->yR)->vI}{J:World->vI}{d:DefRec}{K:Params->Ng}{CX:World->CXT}{sp:World->Sp}{x:Str}
  (M:l.most=sO n) (A:zc6) (C:zw3) (L:zH0)
  (Q:∀(w:World) (h:Heap),J w h->SF)
  (F:∀(w:World) (m:eK) (t:Addr) (h:Heap),SF->uP m->m d.name=sO (aD t) ->
   ∃fd:FuncData,(∀(s:Shared) (u:Value),jd3) /\
    ∀base:Heap,(K w.params).In base->zA6 m->FnOk l.prog w HK m base (CX w) k t fd [x] (sp w))
  (z:∀(w:World) (H:Hp) (a:Addr) (ns:dO),YP->QpG H->SqL HK H a (oG V)->sp w [aF a] H (λv _=>v=g7) zH1)
  (D:∀(w:World) (H:Hp) (s:Shared) (e:Value) (y:Shared),CX w [] H s (λ_ _ _=>False) e y->False) :
  Ybf q i X J l.row.toRowW d [] (λf E=>Yba f E):=by
 refine Att.attach_call M C λw I p m Z t o pm cd U a E ns G Y ho hd O B r j c N=>?_;have KX:=Q w _ Y;obtain⟨fd,P,S⟩:=F w m t _ KX G.T.g B;exact Qhr KX G.T.g G.T.b G.T.builtins G.T.nolimit N r j (Nn c A) L S P (λH R hS=>z w H a ns c R hS) λH e y=>D w H p e y
noncomputable def KP(s:Stmt):Arguments:=match s with
 |.FunctionDef _ a _ _ _ _ _ _ _ _=>a
 |_=>{ posonlyargs:=[],args:=[],vararg:=nO,kwonlyargs:=[],kw_defaults:=[],kwarg:=nO,defaults:=[] }
noncomputable def Xr(s:Stmt):lB:=match s with
 |.FunctionDef _ _ b _ _ _ _ _ _ _=>b
 |_=>[]
noncomputable def Qu(s:Stmt):Scope:=match s with
 |.FunctionDef _ _ _ _ _ _ sc _ _ _=>sc
 |_=>{ kind:=.function,names:=[],isGenerator:=false,isCoroutine:=false }
noncomputable abbrev CX0:CXT:=λ_ _ _ _ _ _=>False
noncomputable abbrev E0:XK:=zH1
theorem Qna{X:Cx}:UV CX0 X E0:=λ_ _ _ _ _ _ _ h=>h.elim
structure Fun(K:Ng)(x qual:Str)(st:Stmt)(f:Addr)(fd:FuncData):Prop where
 ex:∃(oc:Value) (od:qB) (kV doc pm:Value) (an:qB) (cdv ct:Value) (osl:CT),
  fd=DO x qual P5 wC nH .none kV doc pm an cdv ct/\lD f=jj4/\Lm K cdv qual=true
 kp:DI K (aD f)=true
section
variable{P:Program}{w:World}{K:Ng}{mg:eK}{base:Heap}
theorem Fun.ok{x b:Str}{st:Stmt}{f:Addr}{fd:FuncData}{N ps:aO}{k:Nat}{sp:Sp}(F:zJ6 b)(S:FnScope N ps nH)(len:∀d H Q E,jq5 d)
  (e:∀(c:Value) (A:Around) (a:kI) (s:Shared) (H:Hp) (d:bA) (Q:VK) (E:XK),zm4 b c->sp d H Q E ->
   ∃t,PSs (Qjh CX0 P w K mg base N b nH f c A a s H E).nox wC t/\jd2 n d):FnOk P w K mg base CX0 (k+1) f fd ps sp:=by
 obtain⟨p,o,kV,m,pm,r,c,ct,j,rfl,lk,i⟩:=F.ex;refine QpI lk i S len λA a s H d Q E l g=>?_;obtain⟨t,h,q⟩:=e c A a s H d Q E l g;exact⟨t,h.nox,q⟩
theorem Fun.binds{x a:Str}{st:Stmt}{f:Addr}{fd:FuncData}{ps:aO}(F:zJ6 a)
  (h:∀(kV b pm:Value) (d:qB) (c ct:Value) (us:aX),zx4->bindArgs (zn8 b d c) zc2=pure Bo):SX:=by
 obtain⟨j,i,kV,b,pm,d,c,ct,e,rfl,lk,g⟩:=F.ex;exact .all (h kV b pm d c ct)
theorem Qjj{x a:Str}{st:Stmt}{f:Addr}{i:Value}{h g:qB}{e:CT}{kV d pm b ct:Value}(l:lD f=sO ⟨i,h,.func (zn8 d g b),e⟩)
  (c:Lm K b a=true) (k:DI K (aD f)=true):Fun K x a st f (zn8 d g b):=⟨⟨i,h,kV,d,pm,g,b,ct,e,rfl,l,c⟩,k⟩
#print "-"
theorem QlG{A B:Prop}(h:B):if false=true then A else B:=by
 rw[if_neg Ea];exact h
theorem Qj8{A B:Prop}(h:A):if true=true then A else B:=by
 rw[fO];exact h
section
variable{κ:Type}[Bt κ]
noncomputable def Qbn(kvs:l6)(k:κ):j2 V:=(kvs.find? (jQ a k)).map (·.2)
noncomputable def Qbd(kvs:l6)(k:κ)(v:V):l6:=
 if(kvs.any (jQ a k))=true then kvs.map (λa=>AC a v)else kvs++[(k,v)]
theorem QiC{p:κ×V}{r:l6}{k:κ}(e:p.1=k):Qbn (p::r) k=sO p.2:=by simp[Qbn,N9,e]
theorem Qhv{p:κ×V}{r:l6}{k:κ}(e:¬p.1=k):Qbn (p::r) k=Qbn r k:=by simp[Qbn,N9,e]
theorem K0(kvs:l6)(k:κ)(v:V):(Qbd kvs k v).length<=kvs.length+1:=by
 unfold Qbd;show S5
 ·rw[NK,NQ,F7];lia
theorem RelO.isSome_eq{o:j2 V}{u:yR}(r:RelO o u):o.isSome=u.isSome:=by
 cases o with
 |none=>cases u with
  |none=>rfl
  |some _=>show AF r
 |some _=>cases u with
  |none=>show AF r
  |some _=>rfl
theorem RelO.getD{o:j2 V}{u:yR}{d:V}{d':Value}(r:RelO o u)(a:fV d d'):RelV (o.getD d) (u.getD d'):=by
 cases o with
 |none=>cases u with
  |none=>exact a
  |some _=>show AF r
 |some _=>cases u with
  |none=>show AF r
  |some _=>exact r
theorem KV.val{kvs:l6}{d:m3 κ}(r:p5 d)(k:κ):RelO (Qbn kvs k) (valueAt d k):=by
 unfold KV at r
 induction r with
 |nil=>exact True.intro
 | @cons p q ps a h t g=>
  show lO f i h
  show wE p
  ·have c:q.1=k:=f.symm.trans e;have b:valueAt (q::a) k=sO q.2:=by simp[valueAt,N9,c]
   rw[QiC e,b];exact i
  ·have c:¬q.1=k:=λz=>e (dX f z);have b:valueAt (q::a) k=valueAt a k:=by simp[valueAt,N9,c]
   rw[Qhv e,b];exact g
theorem KV.any{kvs:l6}{b:m3 κ}(r:p5 b)(k:κ):(kvs.any (jQ a k))=b.any (jQ a k):=by
 unfold KV at r
 induction r with
 |nil=>rfl
 |cons h t c=>rw[D0,D0,c,h.1]
theorem KV.repl{kvs:l6}{c:m3 κ}(r:p5 c)(k:κ){y:V}{u:Value}(d:cU y) :
  KV (kvs.map λa=>AC a y) (c.map λa=>AC a u):=by
 unfold KV at r ⊢
 induction r with
 |nil=>exact .nil
 |@cons p q ps i h t f=>
  show zJ7 f;show lO b g h
  show wE p
  ·rw[bH e,if_pos (b.symm.trans e)];show k5 b d
  ·rw[bQ e,if_neg (λz=>e (dX b z))];show k5 b g
theorem KV.put{kvs:l6}{a:m3 κ}(r:p5 a)(k:κ){y:V}{u:Value}(b:cU y):KV (Qbd kvs k y) (stored a k u):=by
 unfold Qbd stored;rw[r.any k]
 by_cases e:(a.any (jQ c k))=true
 ·rw[bH e,bH e];exact r.repl k b
 ·rw[bQ e,bQ e];exact OP r (A5 b)
theorem KV.keys{kvs:l6}{a:m3 κ}(r:p5 a):kvs.map (·.1)=a.map (·.1):=by
 unfold KV at r
 induction r with
 |nil=>rfl
 |cons h t b=>rw[ND,ND,b,h.1]
theorem KV.length{kvs:l6}{a:m3 κ}(r:p5 a):kvs.length=a.length:=Ef r
#print "-"
theorem QaM{P:Program}{w:World}{k:Key}{u:Value}(r:RelV (kV k) u):(JG P w).is k u=true:=by
 cases k with
 |inl i=>obtain⟨t,e⟩:=(show zw9 from r);subst e;exact QbO P w i t
 |inr x=>obtain⟨t,e⟩:=(show∃t,u=zg8 t from r);subst e;exact QbN P w x t
section
variable{P:Program}{w:World}{H:Hp}{h:Heap}{a:Addr}
theorem Qo3{u:HO}(ok:qA)(e:Rd H a u):Ht u:=e.ok ok
theorem QaC{kvs:dM V}(ok:qA)(e:Rd H a sZ):CQ/\xK/\∃b,p5 b/\Tp h b:=
 show ObjOk P w H h a sZ from Qo3 ok e
theorem Qhn{kvs:dM V}(ok:qA)(e:H a=sO sZ):CQ/\xK/\∃b,p5 b/\Tp h b:=QaC ok (iQ e)
#print "-"
def DGet(H:Hp)(a:Addr)(y:V)(r:j2 V):Prop:=∃b k,Rd H a (.dK b)/\y=kV k/\r=Qbn b k
def DPut(H:Hp)(a:Addr)(y v:V)(c:Hp):Prop:=∃b k,H a=sO (.dK b)/\y=kV k/\b.length<sizeLine/\c=upd H a (.dK (Qbd b k v))
theorem DGet.k{H:Hp}{a:Addr}{kvs:dM V}{k:Key}(e:H a=sO sZ):DGet H a (kV k) (Qbn kvs k):=⟨kvs,k,eH e,rfl,rfl⟩
theorem DPut.k{H:Hp}{a:Addr}{kvs:dM V}{k:Key}{v:V}(e:H a=sO sZ)(b:Sg):DPut H a (kV k) v (upd H a (.dK (Qbd kvs k v))):=⟨kvs,k,e,rfl,b,rfl⟩
section
variable{X:Cx}{pins:bT}{σ:St}{H:Hp}{s:Shared}{a:Addr}{y v:V}{u r:Value}{o:j2 V}{A:Around}{E:bJ}
theorem Inv.big(I:bW):sysModules<s.heap.objs.size:=by
 have h:mainGlobals<s.heap.objs.size:=(I.mod.glob.keeps I.bk).lt;exact NT aE h
theorem Qeb{Q:bJ}(m:mG<cLine)(I:bW)(g:DGet H a y jD)(f:cU y)(h:∀w' c,p' H c->fV v w'->Q w' c) :
  wpAny bU A (getItem (aD a) u) Q E s:=by
 show c7 i k e j l g;subst j;show Ap d;obtain⟨w',hw,b⟩:=RelO.some_of (v:=v) (o:=valueAt d k) (by rw[l];exact rel.val k);exact wpAny_getItem_of (QaM f) dd.mapOf hw (h w' _ zE b)
theorem Qsz{Q:bJ}(j:mG<cLine)(I:bW)(g:HU)(c:cU y)(h:∀b,p' H b->Q (.bool o.isSome) b) :
  wpAny bU A (compareOp .In u (aD a)) Q E s:=by
 show c7 d k e f l g;subst f;show Ap i;refine wpAny_in_of (QaM c) hd dd.mapOf ?_;rw[<-(rel.val k).isSome_eq,<-l];exact h _ zE
theorem Ql4{Q:bJ}(j:mG<cLine)(I:bW)(g:HU)(c:cU y)(h:∀b,p' H b->Q (.bool (!o.isSome)) b) :
  wpAny bU A (compareOp .NotIn u (aD a)) Q E s:=by
 show c7 d k e f l g;subst f;show Ap i;refine wpAny_notIn_of (QaM c) hd dd.mapOf ?_;rw[<-(rel.val k).isSome_eq,<-l];exact h _ zE
theorem Qbv{h':Heap}{t':Nat}{ob:HO}(I:bW)(c:Mut (H a))(d:lS a)(f:∃q,oX a=sO q)(new:ObjOk X.prog X.w (upd H a ob) h' a ob) :
  Inv X pins σ (upd H a ob) { s with heap:=h',toks:=t' }:=
 I.write (x:=a) (e:=a) c fA (λb q g z=>(d.2 b g).trans z) f new
theorem QfY{P:Program}{w:World}{c:Hp}{h':Heap}{kvs:dM V}{b:SG}(z:CQ)(hd:xK)(rel:p5 b)(dd:Tp h' b) :
  ObjOk P w c h' a sZ:=⟨z,hd,b,rel,dd⟩
theorem QgB{f:Hp}{Q:Unit->eA}(G:mG<cLine)(I:bW)(g:DPut H a y v f)(j:cU y)(rv:fV v r)(h:∀d,p' f d->Q () d) :
  wpAny bU A (setItem (aD a) u r) Q E s:=by
 obtain⟨b,k,e,D,l,F⟩:=g;subst D F;obtain⟨z,hd,i,rel,dd⟩:=Qhn I.hok e;have m:i.length<=sizeLine:=by rw[<-rel.length];exact z
 have x:(Qbd b k v).length<=sizeLine:=by have:=K0 b k v;lia
 refine wpAny_setItem_pairs (hsz:=m) (QaM j) dd λC c p=>h _ ?_;have B:∃q,C.get? a=sO q:=let⟨q,_,_,t,_⟩:=c;⟨q,t⟩
 exact Qbv I (zv3 e) p B (QfY x hd (rel.put k rv) c)
#print "-"
def Qpl(i:Expr):Prop:=zX1 a b i
theorem QfO{prog:Program}{w:World}{A:Around}{E:bJ}{s:Shared}{env:Env}{value slice:Expr}{pos:Pos}{T id:String}{Q:bJ}
  (l:typeLookup vQ "__getitem__"=pure (sO sA)) (j:Qpl slice)
  (h:wpAny aT A (eval value env) (λo d=>wpAny aT A (eval slice env) (λi a=>a.TypeIs o T/\wpAny aT A (getItem o i) Q E a) E d) E s) :
  wpAny aT A (eval (.Subscript value slice pos) env) Q E s:=by
 refine Subscript_ (N8 h (λo d f=>N8 f (jZ i a b) (fR x)) (fR x));obtain⟨g,b⟩:=b;unfold subscriptTail;show tX;rw[getitemInPython_of_ne g.not_modules];refine Na (Dy g l ?_)
 have fin:wpAny aT A (subscripted slice false o i) (λr c=>wpAny aT A (letTemporaryGo value o r>>=λ_=>pure r) Q E c) E a:=by
  rw[j o i];exact wpAny_operating (N8 b (λr c e=>Na (wpAny_letTemporaryGo (Nh e))) (fR x))
 first
  |exact Nh (Na fin)
  |exact Na (Nh (Na fin))
  |exact Na fin
theorem QbQ{X:Cx}{b:bT}{σ:St}{H:Hp}{s:Shared}{a:Addr}{y:V}{o:j2 V}(I:cI b σ)(g:HU):s.TypeIs (aD a) "dict":=by
 obtain⟨c,k,e,_,_⟩:=g;obtain⟨_,_,d,_,dd⟩:=QaC I.hok e;exact dd.typeIs
noncomputable def QpA(d ty:TE):TE:=λb H Q=>d b H λx e=>ty b e λy c=>∃a v,x=aF a/\DGet c a y jD/\Q v c
noncomputable def Qoq(e ty d:TE):TS:=λD b H=>d b H λv h=>e b h λx g=>ty b g λy f=>∃a c,x=aF a/\DPut f a y v c/\D.nx b c
section
variable{X:Cx}{o i e value:Expr}{pos pos' tpos:Pos}{td ty tv:TE}
theorem QkQ(q:yZ<cLine)(t:PE X o td)(w:PE X i ty)(r:Qpl i):PE X (yQ o i) (QpA td ty):=by
 show dU b f Q;refine QfO L4.lookup r (thn (hC t b f) (aM u j c));show c7 x C I1 m p c;refine thn (w b j f C _ I1 p) (aM G F c);obtain⟨y,B,I2,l,a,v,z,g,n⟩:=c;subst z;obtain rfl:u=fJ a:=m;exact⟨QbQ I2 g,Qeb q I2 g l λD E I3 d=>⟨v,B,I3,d,n⟩⟩
theorem QlC(w:yZ<cLine)(B:PE X o td)(C:PE X i ty)(t:PE X value tv)(z:swapsWith value (sO zu3) pos.line X.env=sS) :
  PS X (.Assign zv4 value pos) (Qoq td ty tv):=by
 show dU b d D;refine OQ (thn (hC t b d) (aM r j c)) z;obtain⟨v,J,I1,rv,q⟩:=c;refine thn (B b j d J _ I1 q) (aM u f c);show c7 x G I2 m p c;refine thn (C b f d G _ I2 p) (aM N M c);obtain⟨y,O,I3,l,a,F,E,g,n⟩:=c;subst E;obtain rfl:u=fJ a:=m;exact QgB w I3 g l rv λL I4=>⟨d,F,I4,n⟩
#print "-"
theorem QgQ{P:Program}{w:World}{H:Hp}(h:Heap)(a:sysModules<h.objs.size):ObjOk P w H (h.push { cls:=sJ,data:=zH }) h.objs.size (.dK []):=
 ⟨NS _,ja9,[],.nil,Ybb h⟩
theorem QcK{P:Program}{w:World}{H:Hp}(h:Heap)(a:sysModules<h.objs.size):ObjOk P w H (h.push { cls:=sJ,data:=zH }) h.objs.size (.dT []):=
 ⟨NS _,ja9,[],.nil,_,#[],0,dF,AR,rfl,rfl,Ez,rfl⟩
noncomputable def QnA:TE:=λ_ H Q=>∀p,lL->Q (aD p) (upd H p (.dK []))
noncomputable def Qmn:TE:=λ_ H Q=>∀p,lL->Q (aD p) (upd H p (.dT []))
section
variable{X:Cx}{pos:Pos}
theorem QhM:PE X Sz QnA:=λb s c H Q I h=>
 wpAny_Dict_empty ⟨eZ s,_,I.laid (a:=s.heap.objs.size) (o:=.dK []) (t':=s.toks) Sy c8 (QgQ s.heap I.big),rfl,h _ (I.hok.fresh c8)⟩
theorem QiB:PE X Sz Qmn:=λb s c H Q I h=>
 wpAny_Dict_empty ⟨eZ s,_,I.laid (a:=s.heap.objs.size) (o:=.dT []) (t':=s.toks) Sy c8 (QcK s.heap I.big),rfl,h _ (I.hok.fresh c8)⟩
#print "-"
structure M2(X:Cx)(o:Expr)(m:Str)(apos:Pos)(e f:Expr)(cpos:Pos):Prop where
 base:attributeBase o m X.env (lA o)=BH o
 few:((backTo cpos jq8).all zb1&&zl5
  && decide (([e,f]:fY).length+jq7+zU4<30))=true
 line:CD
 trees:backTo cpos jq8=[fM e,fM f]
section
variable{X:Cx}{pins:bT}{σ:St}{H:Hp}{s:Shared}{a:Addr}{y d:V}{u r:Value}{o:j2 V}{A:Around}{E:bJ}
theorem QmE{Q:bJ}(m:mG<cLine)(I:bW)(g:HU)(c:cU y)(h:∀w' b,p' H b->RelV (o.getD .non) w'->Q w' b) :
  wpAny bU A (call ju0 [aF a,u]) Q E s:=by
 show c7 f k e i l g;subst i;show Ap j;refine Oe FJ dd.typeIs OR (PySem.F.args_dict_get_2 _ _) (meets_dict_get Hh a (QaM c) hd) ⟨_,dd.mapOf,h _ _ zE ?_⟩;rw[l];exact(rel.val k).getD rfl
theorem Qni{Q:bJ}(n:mG<cLine)(I:bW)(g:HU)(c:cU y)(f:fV d r)(h:∀w' b,p' H b->RelV (o.getD d) w'->Q w' b) :
  wpAny bU A (call ju0 [aF a,u,r]) Q E s:=by
 show c7 i k e j l g;subst j;show Ap m;refine Oe FJ dd.typeIs OR (PySem.F.args_dict_get_3 _ _ _) (meets_dict_get_default Hh a (QaM c) hd r) ⟨_,dd.mapOf,h _ _ zE ?_⟩;rw[l];exact(rel.val k).getD f
#print "-"
section
variable{X:Cx}{pins:bT}{σ:St}{H:Hp}{s:Shared}{a:Addr}{kvs:dM V}{A:Around}{E:bJ}
theorem Qhm{Q:bJ}(I:bW)(e:Rd H a sZ)(h:∀p d,lL->Inv X pins σ (upd H p sZ) d->Q (aD p) d):wpAny bU A (call uQ [aF a]) Q E s:=by
 show Ap i;refine kt_call_dict hd dd (by rw[<-rel.length];exact z) (aM l c g);refine h _ _ (I.hok.fresh c8) (I.laid (a:=s.heap.objs.size) (o:=.dK kvs) (t':=s.toks) (jZ b q f) c8 (QfY z (beq_eq_false_iff_ne.mpr (EI (NB I.big))) rel c));exact(g.2 b (NB (NC f))).trans (Nl _ f)
#print "-"
#print "-L2"
namespace Mi
open L2
inductive W where
 |non|bl (b:Bool)|int (i:Int)|str (x:Str)|tup (ws:aI)|lst (ws:aI)|frz (ws:aI)|ref (n:Nat)|ty (n:String)
inductive MO where
 |lst (ws:aI)
 |dic (kvs:dM W)
 |dct (kvs:kH)
 |ins (C:Addr) (fs:List (Str×W))
noncomputable abbrev MH:=kL
noncomputable abbrev MSt:=za7 W
structure Rn where
 ρ:Nat->Addr
 N:Nat
 F:Hp
 G:Hp
structure Ext(R R':Rn):Prop where
 n:R.N<=R'.N
 ρ:∀n,n<R.N->R'.ρ n=p4
 f:xE
 g:R'.G=R.G
theorem Ext.refl(R:Rn):Ext R R:=⟨Nv _,sT,fR h,rfl⟩
theorem Ext.trans{R R1 R2:Rn}(a:kT R1)(b:zi5):kT R2:=
 ⟨Nn a.n b.n,λn h=>(b.ρ n (Ni h a.n)).trans (a.ρ n h),λx o h=>b.f x o (a.f x o h),b.g.trans a.g⟩
theorem Jx{K:Ng}(e:jn6)(h:BG F):BG b:=by
 show zU5
 ·exact jj5
 ·exact k6 h
theorem Jb{K:Ng}(e:jn6)(h:MJ F):MJ b:=by
 show zU5
 ·exact jj5
 ·exact k6 h
section
variable(K:Ng)
mutual
noncomputable def Rw(R:Rn):W->V->Prop
 |.non,v=>v=.non
 |.bl b,v=>v=.bl b
 |aC i,v=>v=aC i
 |c4 x,v=>v=c4 x
 |fD,v=>∃a xs,v=aF a/\zH2/\Rws R ws xs
 |eV,v=>∃a xs,v=aF a/\R.F a=sO iK/\Rws R ws xs
 |nK,v=>∃a xs,v=aF a/\Tx/\Rws R ws xs
 |aF n,v=>n<R.N/\v=.ref iA
 |.ty n,v=>v=.ty n
noncomputable def Rws(R:Rn):aI->bA->Prop
 |[],b=>b=[]
 |w::ws,b=>∃v a,b=v::a/\Rw R w v/\Rws R ws a
end
#print "-"
section
variable{K:Ng}{R R':Rn}
mutual
theorem Rw.mono(e:jV):∀(w:W) (v:V),fI->mO R' w
 |.non,_,h=>by show kA
 |.bl _,_,h=>by show kA
 |nP,_,h=>by show kA
 |lM,_,h=>by show kA
 |.ty _,_,h=>by show kA
 |fD,_,h=>by
  show Ao b c d;exact⟨a,xs,b,Jx e.f c,zz3⟩
 |eV,_,h=>by
  show Ao b c d;exact⟨a,xs,b,e.f a _ c,zz3⟩
 |nK,_,h=>by
  show Ao b c d;exact⟨a,xs,b,Jb e.f c,zz3⟩
 |aF n,_,h=>by
  show BW h;show lO b c h;exact⟨Ni b e.n,by rw[e.ρ n b];exact c⟩
theorem Rws.mono(e:jV):∀(ws:aI) (b:bA),iW b->Rws K R' ws b
 |[],_,h=>by show IN;exact h
 |w::ws,_,h=>by
  show IN;show c7 v a f d c h;exact⟨v,a,f,Rw.mono e w v d,Rws.mono e ws a c⟩
end
theorem Rws.nil_iff:Rws K R [] a↔a=[]:=by unfold Rws;exact Iff.rfl
theorem Rws.cons_iff:Rws K R (w::ws) b↔∃v a,b=v::a/\fI/\iW a:=by
 constructor
 ·intro h;unfold Rws at h;exact h
 ·intro h;unfold Rws;exact h
theorem Rws.nil:Rws K R [] []:=Rws.nil_iff.mpr rfl
theorem Rws.cons(a:fI)(b:iW c):Rws K R (w::ws) (v::c):=Rws.cons_iff.mpr ⟨v,c,rfl,a,b⟩
theorem Rws.paired:∀{ws:aI} {c:bA},iW c->Paired (Rw K R) ws c:=by
 intro ws
 induction ws with
 |nil=>
  intro c h;show iD h;exact .nil
 |cons w ws e=>
  intro c h;show i3 h v d a b;exact .cons a (e b)
theorem Rws.of{ws:aI}{b:bA}(p:Paired (Rw K R) ws b):iW b:=
 p.rec Rws.nil λa _ h=>Rws.cons a h
theorem Rws.length(h:iW a):ws.length=a.length:=Ef h.paired
theorem Rws.get{ws:aI}{c:bA}{i:Nat}{w:W}(h:iW c)(e:ws[i]?=sO w):∃v,c[i]?=sO v/\fI:=by
 induction ws generalizing c i with
 |nil=>cases e
 |cons x ws f=>
  show i3 h v d a b;cases i with
  |zero=>cases e;exact⟨v,rfl,a⟩
  |succ i=>have z:=f b e;exact z
theorem Rws.append:∀{ws us:aI} {c xs:bA},iW c->Rws K R us xs->Rws K R (ws++us) (c++xs):=by
 intro ws
 induction ws with
 |nil=>
  intro us c xs h q;show iD h;exact q
 |cons w ws e=>
  intro us c xs h q;show i3 h v d a b;exact Rws.cons a (e b q)
theorem Rws.take:∀{ws:aI} {c:bA} (n:Nat),iW c->Rws K R (ws.take n) (c.take n)
 |_,_,0,_=>by simp;show tT
 |[],c,n+1,h=>by show iD h;simp;show tT
 |w::ws,c,n+1,h=>by
  show i3 h v d a b;exact Rws.cons a (Rws.take n b)
theorem Rws.drop:∀{ws:aI} {c:bA} (n:Nat),iW c->Rws K R (ws.drop n) (c.drop n)
 |_,_,0,h=>cN h
 |[],c,n+1,h=>by show iD h;simp;show tT
 |w::ws,c,n+1,h=>by
  show i3 h v d a b;exact Rws.drop n b
theorem Rws.set{ws:aI}{c:bA}{w:W}{v:V}(n:Nat)(h:iW c)(q:fI):Rws K R (ws.set n w) (c.set n v):=by
 induction ws generalizing c n with
 |nil=>show iD h;show tT
 |cons x ws e=>
  show i3 h y d a b;cases n with
  |zero=>exact Rws.cons q b
  |succ n=>exact Rws.cons a (e n b)
#print "-"
noncomputable def kW:Key->W
 |eH i=>aC i
 |k6 x=>c4 x
noncomputable def UO:Nat->W->Option Tr
 |0,_=>nO
 |_+1,aC i=>sO (.i i)
 |_+1,.bl b=>sO (.i (A' b))
 |_+1,c4 x=>sO (.s x)
 |n+1,fD=>(ws.mapM (UO n)).map .t
 |_+1,_=>nO
noncomputable def nrm:W->Option Tr
 |fD=>UO 8 sX
 |_=>nO
section
variable(K:Ng)
noncomputable def Ro(R:Rn):MO->zi2->Prop
 |eV,o=>∃xs,o=sO iK/\iF
 |.dic kvs,o=>∃kx:dM V,o=sO (.dK kx)/\Paired PQ kvs kx
 |.dct kvs,o=>∃kx:gB,o=zc7/\Paired (λp q=>Pj) kvs kx
 |.ins C fs,o=>∃(b:Addr) (a:HD),o=sO (.ins C b a)/\Paired PQ fs a
structure Rh(R:Rn)(h:MH)(H:Hp):Prop where
 len:R.N=h.length
 sub:∀a o,R.F a=sO o->NE
 sep:∀n,n<R.N->R.F iA=nO
 inj:∀m n,m<R.N->n<R.N->R.ρ m=p4->m=n
 obj:∀n o,h[n]?=sO o->Ro K R o (H iA)
 gsub:∀a o,R.G a=sO o->NE
 gsep:∀n,n<R.N->R.G iA=nO
 gf:∀a o,R.G a=sO o->R.F a=nO
def Rst(R:Rn)(a:MSt)(σ:L2.St):Prop:=a.length=σ.length/\∀(i:Nat) (w:W),a[i]?=sO tV->∃v,σ[i]?=sO jD/\fI
#print "-"
section
variable{K:Ng}{R R':Rn}{h:MH}{H:Hp}{σi:MSt}{σ:L2.St}
theorem Ro.mono(e:jV)(q:C3 R):C3 R':=by
 cases o with
 |lst j=>show fT i d c q;exact⟨i,d,Rws.mono e j i c⟩
 |dic g=>show fT f d c q;exact⟨f,d,Paired.mapP c (P' e)⟩
 |dct g=>show fT f d c q;exact⟨f,d,Paired.mapP c (zT7 e)⟩
 |ins C fs=>show iO m l d c q;exact⟨m,l,d,Paired.mapP c (P' e)⟩
theorem Ro.some(q:C3 R):∃x,u=sO x:=by
 cases o with
 |lst f=>show fT e a c q;show u0 a
 |dic b=>show fT d a c q;show u0 a
 |dct b=>show fT d a c q;show u0 a
 |ins C fs=>show iO i g a c q;show u0 a
theorem Rst.mono(e:jV)(q:Rst K R σi σ):Rst K R' σi σ:=⟨q.1,λi w h=>by
 obtain⟨v,b,a⟩:=q.2 i w h
 exact⟨v,b,sU e a⟩⟩
theorem Rst.set(q:Rst K R σi σ)(r:fI):Rst K R (σi.set i tV) (σ.set i jD):=by
 refine⟨by rw[DV,DV];exact q.1,aM j u e⟩;rw[LU]at e ⊢
 by_cases a:i=j
 ·subst a;rw[fO]at e ⊢
  by_cases b:i<σi.length
  ·rw[bH b]at e;rw[if_pos (q.1▸b)];cases e;exact⟨v,rfl,r⟩
  ·rw[bQ b]at e;cases e
 ·rw[bQ a]at e ⊢;exact q.2 j u e
theorem Rh.there(q:eG)(c:n<R.N):∃o u,h[n]?=sO o/\H iA=sO u:=by
 have a:n<h.length:=q.len▸c;obtain⟨u,b⟩:=(q.obj n h[n] (Nj a)).some;exact⟨h[n],u,Nj a,b⟩
theorem Rh.ne(q:eG)(b:lL)(c:n<R.N):p4≠p:=λe=>by
 obtain⟨o,u,_,a⟩:=q.there c;rw[e,b]at a;cases a
theorem Rh.fix(q:eG)(c:lL) :
  je7/\Rh K { R with F:=upd R.F p o } h (nM p):=by
 have g:R.F p=nO:=by
  cases e:R.F p with
  |none=>rfl
  |some u=>have:=q.sub p u e;show lX c
 have x:je7:=⟨Nv _,sT,λa u e=>by
  show zJ9=sO u
  show An z e,rfl⟩
 have f:jq9:=zR9 c
 refine⟨x,q.len,aM a u e,bG n d,q.inj,aM n u e,aM a u e,q.gsep,aM a u e⟩
 rotate_right 2
 ·rw[QZ (f a u e)];exact Y'
 ·show zJ9=nO;rw[QZ (f a u e)];exact q.gf a u e
 ·by_cases z:a=p
  ·subst z;have b:upd R.F a o a=sO u:=e;rw[VX]at b ⊢;exact b
  ·have b:zJ9=sO u:=e;rw[QZ z]at b ⊢;exact q.sub a u b
 ·show upd R.F p o iA=nO;rw[QZ (q.ne c d)];exact q.sep n d
 ·have d:n<R.N:=RR q e
  show Ro K _ u (upd H p o iA);rw[QZ (q.ne c d)];exact(q.obj n u e).mono x
theorem Rh.tup(q:eG)(a:lL)(r:iF) :
  ∃R',jV/\Rh K R' h (upd H p mF)/\Rw K R' sX (aD p):=by
 obtain⟨x,y⟩:=q.fix (o:=.tup xs) a;refine⟨_,x,y,?_⟩;unfold Rw;exact⟨p,xs,rfl,SqT.of VX,Mp x r⟩
theorem Rh.lstI(q:eG)(a:lL)(r:iF) :
  ∃R',jV/\Rh K R' h (upd H p iK)/\Rw K R' i8 (aD p):=by
 obtain⟨x,y⟩:=q.fix (o:=.lst xs) a;refine⟨_,x,y,?_⟩;unfold Rw;exact⟨p,xs,rfl,VX,Mp x r⟩
theorem Rh.new(q:eG)(g:lL)(r:∀R',jV->Ro K R' mo (sO o)) :
  ∃R',jV/\Rh K R' (h++[mo]) (nM p)/\Rw K R' (qD h) (aD p):=by
 let R':Rn:={ ρ:=λn=>if n=R.N then p else p4,N:=R.N+1,F:=R.F,G:=R.G }
 have d:∀n,n<R.N->R'.ρ n=p4:=λn b=>if_neg (NB b);have f:R'.ρ R.N=p:=fO;have x:jV:=⟨Ff _,d,fR e,rfl⟩
 have j:jq9:=zR9 g
 have l:R.F p=nO:=by
  cases e:R.F p with
  |none=>rfl
  |some u=>have:=q.sub p u e;show lX g
 have below:∀n,n<R.N+1->n<R.N\/n=R.N:=λn b=>Ly (LV b)
 have i:∀n,n<R.N+1->R.G (R'.ρ n)=nO:=λn b=>by
  show zE7
  ·rw[d n b];exact q.gsep n b
  ·subst b;rw[f];cases e:R.G p with
   |none=>rfl
   |some u=>exact absurd rfl (j p u e)
 refine⟨R',x,⟨?_,aM a u e,bG n b,λm n c b e=>?_,aM n u e,λa u e=>by rw[QZ (j a u e)];exact Y',i,q.gf⟩,?_⟩
 ·show R.N+1=_;rw[NK,q.len];rfl
 ·have z:a≠p:=λz=>by have s:R.F a=sO u:=e;rw[z,l]at s;cases s
  rw[QZ z];exact q.sub a u e
 ·show zE7
  ·rw[d n b];exact q.sep n b
  ·subst b;rw[f];exact l
 ·rcases below m c with c|c<;>rcases below n b with b|b
  ·rw[d m c,d n b]at e;exact q.inj m n c b e
  ·subst b;rw[d m c,f]at e;exact absurd e (q.ne g c)
  ·subst c;rw[d n b,f]at e;exact absurd e.symm (q.ne g b)
  ·rw[c,b]
 ·have b:n<R.N+1:=by
   have:=bX e;rw[NK,<-q.len]at this;exact this
  show zE7
  ·rw[d n b,QZ (q.ne g b)];rw[NJ jl7]at e;exact(q.obj n u e).mono x
  ·subst b;rw[f,VX];rw[Dw (by rw[q.len];exact Nv _),q.len,Nat.sub_self]at e;cases e;exact r R' x
 ·unfold Rw;refine⟨by rw[<-q.len];exact N6 _,?_⟩;rw[<-q.len,f]
theorem Rh.put(q:eG)(b:n<R.N)(r:Ro K R mo (sO o)):Rh K R (h.set n mo) (upd H iA o):=by
 refine⟨by rw[DV];exact q.len,aM a u e,q.sep,q.inj,aM m u e,aM a u e,q.gsep,q.gf⟩
 rotate_right
 ·have z:a≠p4:=λz=>by rw[z,q.gsep n b]at e;cases e
  rw[QZ z];exact Y'
 ·have z:a≠p4:=λz=>by rw[z,q.sep n b]at e;cases e
  rw[QZ z];exact q.sub a u e
 ·by_cases z:n=m
  ·subst z;rw[VX];rw[EX jl7]at e;cases e;exact r
  ·have c:m<R.N:=by
    have:=bX e;rw[DV,<-q.len]at this;exact this
   rw[EJ z]at e;rw[QZ (λw=>z (q.inj m n c b w).symm)];exact q.obj m u e
theorem Rh.tupAt(q:eG)(r:Rw K R sX v):∃a xs,v=aF a/\BG H/\iF:=by
 show dW r;show zE6;exact⟨a,xs,d,Jx q.sub c,b⟩
theorem Rh.lstAt(q:eG)(r:Rw K R i8 v):∃a xs,v=aF a/\H a=sO iK/\iF:=by
 show dW r;show zE6;exact⟨a,xs,d,q.sub a _ c,b⟩
theorem Rh.frzAt(q:eG)(r:Rw K R (.frz ws) v):∃a xs,v=aF a/\MJ H/\iF:=by
 show dW r;show zE6;exact⟨a,xs,d,Jb q.sub c,b⟩
noncomputable def lsW(h:MH):W->HV W
 |eV=>sO ws
 |nK=>sO ws
 |aF n=>match h[n]? with|some i8=>sO ws|_=>nO
 |_=>nO
noncomputable def loW(h:MH):W->HV W
 |eV=>sO ws
 |aF n=>match h[n]? with|some i8=>sO ws|_=>nO
 |_=>nO
theorem Rh.loAt(q:eG)(r:fI)(e:loW h w=sO ws):∃a xs,v=aF a/\H a=sO iK/\iF:=by
 cases w with
 |lst b=>cases e;exact q.lstAt r
 |ref n=>
  simp only[loW]at e;split at e
  ·show lE b c e;show dW r;obtain⟨xs,f,d⟩:=nN q c;exact⟨_,xs,r.2,f,d⟩
  ·cases e
 |_=>cases e
theorem Rh.lsAt(q:eG)(r:fI)(e:lsW h w=sO ws):∃a xs,v=aF a/\MJ H/\iF:=by
 cases w with
 |lst b=>cases e;obtain⟨a,xs,j,i,g⟩:=q.lstAt r;exact⟨a,xs,j,p6 i,g⟩
 |frz b=>cases e;exact q.frzAt r
 |ref n=>
  simp only[lsW]at e;split at e
  ·show lE b c e;show dW r;obtain⟨xs,f,d⟩:=nN q c;exact⟨_,xs,r.2,p6 f,d⟩
  ·cases e
 |_=>cases e
theorem Rh.refAt(q:eG)(r:Rw K R (aD n) v)(e:h[n]?=sO i8) :
  n<R.N/\v=.ref iA/\∃xs,H iA=sO iK/\iF:=by
 show dW r;exact⟨r.1,r.2,nN q e⟩
#print "-"
theorem Rw.non_eq{K:Ng}(r:Rw K R .non v):v=.non:=by show dW r;exact r
theorem Rw.bl_eq{K:Ng}(r:Rw K R lF v):v=.bl b:=by show dW r;exact r
theorem Rw.int_eq{K:Ng}(r:Rw K R cT v):v=aC i:=by show dW r;exact r
theorem Rw.str_eq{K:Ng}(r:Rw K R iX v):v=c4 x:=by show dW r;exact r
theorem Rw.ty_eq{K:Ng}(r:Rw K R (.ty n) v):v=.ty n:=by show dW r;exact r
theorem Rw.ty{K:Ng}(n:String):Rw K R (.ty n) (.ty n):=y0
theorem Rw.non{K:Ng}:Rw K R .non .non:=y0
theorem Rw.bl{K:Ng}(b:Bool):Rw K R lF lF:=y0
theorem Rw.int{K:Ng}(i:Int):Rw K R cT cT:=y0
theorem Rw.str{K:Ng}(x:Str):Rw K R iX iX:=y0
#print "-Mi"
namespace Mi
open L2
noncomputable abbrev ME:=MSt->MH->bF
noncomputable abbrev MT:=MSt->MH->AQ
noncomputable abbrev MA:=MSt->MH->Option (aI×MH)
inductive MF where
 |nx (σ:MSt) (h:MH)|rt (w:W) (h:MH)|bk (σ:MSt) (h:MH)|ct (σ:MSt) (h:MH)
noncomputable abbrev SM:=MSt->MH->zI
noncomputable abbrev FM:=aI->MH->bF
section
variable(K:Ng)
def After(R:Rn)(w:W)(h':MH)(Q:VK):Prop:=∀a b v,kT a->Rh K a h' b->mO a w->Q v b
noncomputable def tI(m:ME):TE:=λc H Q=>∃R a h w b,eG/\iP R a c/\m a h=d7 w b/\vO R b
noncomputable def tIT(m:MT):TT:=λf H Q=>∃R a h b c,eG/\iP R a f/\m a h=d7 b c/\∀d e,kT d->Rh K d c e->Q b e
noncomputable def tIA(m:MA):TA:=λg H Q=>∃R a h c e,eG/\iP R a g/\m a h=d7 c e/\∀b f d,kT b->Rh K b e f->Rws K b c d->Q d f
noncomputable def Ends(R:Rn)(D:L2.Ends):MF->Prop
 |.nx a h=>∀R' b σ,jV->BX b->iP R' a σ->D.nx σ b
 |.bk a h=>∀R' b σ,jV->BX b->iP R' a σ->D.bk σ b
 |.ct a h=>∀R' b σ,jV->BX b->iP R' a σ->D.ct σ b
 |.rt w h=>After K R w h D.rt
noncomputable def tS(m:SM):TS:=λD b H=>∃R a h r,eG/\iP R a b/\m a h=sO r/\zF R
noncomputable def spM(n:Nat)(m:FM):Sp:=λc H Q _=>∃R a h w b,a.length=n/\eG/\Rws K R a c/\m a h=d7 w b/\vO R b
#print "-"
def PM(X:Cx)(e:Expr)(m:ME):Prop:=PE X e (tI X.K m)
def PMT(X:Cx)(e:Expr)(m:MT):Prop:=PT X e (tIT X.K m)
def PMA(X:Cx)(es:fY)(m:MA):Prop:=PA X es (tIA X.K m)
def PMS(X:Cx)(st:Stmt)(m:SM):Prop:=PS X st (tS X.K m)
def QeT(X:Cx)(st:lB)(m:SM):Prop:=PSs X st (tS X.K m)
section
variable{K:Ng}{R R1 R2:Rn}
theorem After.ext(a:vO R h')(x:kT R1):vO R1 h':=λb c v e=>a b c v (dX x e)
theorem Ends.ext(a:zF R)(x:kT R1):zF R1:=by
 cases r with
 |nx d h=>exact λb c v e=>a b c v (dX x e)
 |bk d h=>exact λb c v e=>a b c v (dX x e)
 |ct d h=>exact λb c v e=>a b c v (dX x e)
 |rt w h=>exact After.ext a x
#print "-"
theorem ZH(h:PE X e t)(i:Rb):PE X e t':=λa s σ H Q I q=>h a s σ H Q I yV
theorem Qgc(h:PT X e t)(i:Rb):PT X e t':=λa s σ H Q I q=>h a s σ H Q I yV
theorem Qjr(h:PW X e t)(i:Rb):PW X e t':=λb a s σ H Q I q=>h b a s σ H Q I yV
theorem Qi1(h:zi4)(i:Rb):PA X es t':=λpos a s σ H Q I q=>h pos a s σ H Q I yV
theorem X4{st:Stmt}(h:PS X st t)(i:jh3):PS X st t':=λa s σ H D I q=>h a s σ H D I yV
theorem QfJ{st:lB}(h:PSs X st t)(i:jh3):PSs X st t':=λa s σ H D I q=>h a s σ H D I yV
noncomputable def Qg(i:Nat):ME:=λa h=>match a[i]? with|some tV=>d7 w h|_=>nO
noncomputable def mC(w:W):ME:=λ_ h=>d7 w h
section
variable{X:Cx}
theorem Qb(i:Nat)(hN:l7:=by rfl)(d:H9:=by first|exact Or.inl rfl|exact Or.inr cG|exact Or.inr Id)(hd:i4:=by decide)
  (a:jd7:=by decide):PM X mY (Qg i):=ZH (Qox hN d hd a) <|by
 rintro l H Q ⟨R,b,h,w,n,c,st,e,k⟩
 unfold Qg at e;split at e
 ·show lE m j e;obtain⟨v,g,f⟩:=st.2 i _ j;exact⟨v,g,k R H v bV c f⟩
 ·cases e
theorem Qdq(r:∀R,fC w v)(q:tI X.K wP σ H Q):tC v σ H Q:=by
 obtain⟨R,a,h,c,d,b,st,e,k⟩:=q;cases e;exact k R H v bV b (r R)
theorem Qh{i j pos}:PM X (.Constant cT j pos) (mC cT):=ZH Qnv λ_ _ _=>Qdq λ_=>Rw.int _
theorem JD{b j pos}:PM X jg8 (mC lF):=ZH Qpk λ_ _ _=>Qdq λ_=>Rw.bl _
theorem JV{j pos}:PM X jn1 fB:=ZH Qmx λ_ _ _=>Qdq λ_=>Rw.non
theorem Qln(d:j1)(c:kO=nO)(a:pQ=sO u)(r:cU v)(rw:∀R,fC w v)(b:pP:=by decide)(hd:i4:=by decide):PM X mY wP:=
 ZH (Qli d c a r b hd) λ_ _ _=>Qdq rw
theorem QI{x j pos}:PM X (.Constant iX j pos) (mC iX):=ZH Qn0 λ_ _ _=>Qdq λ_=>Rw.str _
theorem Qkk(b:j1)(a:kO=sO u)(r:cU v)(rw:∀R,fC w v)(hd:i4:=by decide):PM X mY wP:=
 ZH (Qjy b a r hd) λ_ _ _=>Qdq rw
#print "-"
noncomputable def Qn(f:W->W->MH->bF)(c b:ME):ME:=λa h=>(c a h).bind λp=>(b a p.2).bind λq=>TV
def F1(K:Ng)(f:W->MH->bF)(x:V)(H:Hp)(Q:VK):Prop:=∃R h a w b,eG/\zf5/\f a h=d7 w b/\vO R b
def F2(K:Ng)(f:W->W->MH->bF)(x y:V)(H:Hp)(Q:VK):Prop:=∃R h a b w c,eG/\zf5/\Rw K R b y/\f a b h=d7 w c/\vO R c
def Fs(K:Ng)(f:aI->MH->bF)(xs:bA)(H:Hp)(Q:VK):Prop:=∃R h a w b,eG/\Rws K R a xs/\f a h=d7 w b/\vO R b
noncomputable def mUn(f:W->MH->bF)(b:ME):ME:=jc2
noncomputable def mFn(f:aI->MH->bF)(b:MA):ME:=jc2
section
variable{K:Ng}{σ:L2.St}{H:Hp}{Q:VK}
theorem un1(q:tI K (mUn f m) σ H Q):tI K m σ H λx g=>F1 K f x g Q:=by
 obtain⟨R,b,h,w,n,l,st,e,k⟩:=q;show dD a d o p e;exact⟨R,b,h,a,d,l,st,o,λR1 g x i c j=>⟨R1,d,a,w,n,c,j,p,k.ext i⟩⟩
theorem Ql5(q:tI K (Qn f u t) σ H Q):tI K u σ H λx o=>tI K t σ o λy n=>F2 K f x y n Q:=by
 obtain⟨R,c,h,w,v,s,st,e,k⟩:=q;show dD a m A C e;show dD b l z B C
 exact⟨R,c,h,a,m,s,st,A,λR1 o x j g r=>⟨R1,c,m,b,l,g,r6 j,z,λR2 n y i d p=>
  ⟨R2,l,a,b,w,v,d,sU i r,p,B,k.ext (dX j i)⟩⟩⟩
theorem Qdr(q:tI K (mFn f m) σ H Q):tIA K m σ H λxs g=>Fs K f xs g Q:=by
 obtain⟨R,b,h,w,n,l,st,e,k⟩:=q;show dD a d o p e;exact⟨R,b,h,a,d,l,st,o,λR1 g x i c j=>⟨R1,d,a,w,n,c,j,p,k.ext i⟩⟩
#print "-"
noncomputable def Xt:Expr->Bool
 |.Starred ..=>true
 |_=>false
noncomputable def KL(es:fY):Bool:=es.all λe=>!Xt e
theorem Q2(h:nB):starEach i1 env=(false,eval e env)::starEach es env:=by
 cases e<;>first|rfl|cases h
theorem JP(h:vJ):(backTo pos (starEach es env)).any (·.1)=false:=by
 induction es with
 |nil=>rfl
 |cons e es a=>
  unfold KL at h a;rw[Yao,N5]at h;have b:nB:=by simpa using h.1
  rw[Q2 b];have:=a h.2;unfold backTo at this ⊢;rw[ND,D0,this];rfl
theorem QgS(h:vJ):(backTo pos (starEach es env)).all zb1=true:=by
 have:=JP (env:=env) (pos:=pos) h;rw[List.all_eq_not_any_not];simp only[Bool.not_not];show wW
noncomputable def Ql:MA:=λ_ h=>sO ([],h)
noncomputable def Qc(c:ME)(b:MA):MA:=λa h=>(c a h).bind λp=>(b a p.2).bind λq=>sO (p.1::q.1,q.2)
section
variable{X:Cx}{e:Expr}{es:fY}{m:ME}{ms:MA}{pos:Pos}
theorem Qe:PMA X [] Ql:=Qi1 Qnn <|by
 rintro c H Q ⟨R,a,h,d,f,b,st,e,k⟩
 cases e;exact k R H [] bV b Rws.nil
theorem Qa(t:zP)(s:zc8)(r:nB:=by rfl):PMA X i1 (Qc m ms):=
 Qi1 (Qlf t s (Q2 r)) λB H Q l=>by
  obtain⟨R,c,h,C,D,q,st,e,k⟩:=l;show dD a j w z e;show dD b u v y z;cases y
  exact⟨R,c,h,a,j,q,st,w,λR1 E x i f p=>⟨R1,c,j,b,u,f,r6 i,v,λR2 A n g d o=>
   k R2 A (x::n) (dX i g) d (Rws.cons (Rw.mono g _ _ p) o)⟩⟩
noncomputable def Zs(ws:aI)(h:MH):bF:=if AH then sO (fD,h)else nO
noncomputable def V4(ws:aI)(h:MH):bF:=if AH then sO (eV,h)else nO
noncomputable def Wr(ws:aI)(h:MH):bF:=if AH then sO (eX,h++[eV])else nO
theorem QB{d}(h:zc8):PM X (zb0 d) (mFn Zs ms):=ZH (Qos h) λC H Q q=>by
 obtain⟨R,c,z,o,y,t,st,e,k⟩:=Qdr q;refine⟨R,c,z,o,y,t,st,e,λR1 B r d j s=>?_⟩;obtain⟨R2,E,n,w,D,i,a,b,u⟩:=k R1 B r d j s;unfold Zs at b;split at b
 ·show g6 x b;refine⟨nW a x,bG p v⟩;obtain⟨A,l,g,f⟩:=i.tup v a;exact u A _ _ l g f
 ·cases b
theorem Zc(h:zc8):PM X zE3 (mFn V4 ms):=ZH (Qjd h) λC H Q q=>by
 obtain⟨R,c,z,o,y,t,st,e,k⟩:=Qdr q;refine⟨R,c,z,o,y,t,st,e,λR1 B r l i s=>?_⟩;obtain⟨R2,E,n,w,D,g,a,b,u⟩:=k R1 B r l i s;show uZ V4 b
 ·show g6 x b;refine⟨nW a x,bG p v⟩;obtain⟨A,j,f,d⟩:=g.lstI v a;exact u A _ _ j f d
 ·cases b
theorem Vf(h:zc8):PM X zE3 (mFn Wr ms):=ZH (Qjd h) λE H Q q=>by
 obtain⟨R,c,B,t,A,v,st,e,k⟩:=Qdr q;refine⟨R,c,B,t,A,v,st,e,λR1 D f r l u=>?_⟩;obtain⟨R2,I,d,w,G,j,a,b,x⟩:=k R1 D f r l u;unfold Wr at b;split at b
 ·show g6 z b;refine⟨nW a z,bG p y⟩;obtain⟨C,n,i,g⟩:=j.new (mo:=jG d) (o:=jG f) y λJ s=>⟨f,rfl,Mp s a⟩
  exact x C _ _ n i g
 ·cases b
#print "-"
def OpM(K:Ng)(r:R2)(f:W->W->MH->bF):Prop:=∀x y H Q,F2 K f x y H Q->wK r
def Qkw(K:Ng)(r:bA->fG)(f:aI->MH->bF):Prop:=∀a H Q,Fs K f a H Q->r a H Q
section
variable{X:Cx}{a b c:Expr}{ma mb mc:ME}{pos:Pos}
theorem V7{K:Ng}(h:tI K m σ H Q)(i:∀v H,Q v H->Q' v H):tI K m σ H Q':=by
 obtain⟨R,d,h,w,g,f,st,e,k⟩:=h;exact⟨R,d,h,w,g,f,st,e,λj l v a b c=>i _ _ (k j l v a b c)⟩
theorem Qad{K:Ng}(h:tIA K m σ H Q)(i:∀v H,Q v H->Q' v H):tIA K m σ H Q':=by
 obtain⟨R,d,h,w,g,f,st,e,k⟩:=h;exact⟨R,d,h,w,g,f,st,e,λj l v a b c=>i _ _ (k j l v a b c)⟩
theorem QN(g:OpR X (binaryOp op) r)(h:zc9)(j:qQ)(i:BM):PM X (.BinOp a op b pos) zK1:=
 ZH (QpU g j i) λ_ _ _ q=>V7 P6 (zr3 h)
theorem QcS(g:RS)(i:zc9)(l:qQ)(j:BM)(h:RF:=by rfl):PM X Rv zK1:=
 ZH (Qke g l j h) λ_ _ _ q=>V7 P6 (zr3 i)
noncomputable def Qy(m:ME):MT:=λd h=>(m d h).bind λp=>match p.1 with|.bl b=>sO (b,p.2)|_=>nO
theorem QhX{K:Ng}(q:tIT K (Qy m) σ H Q):tI K m σ H λx i=>∃k,x=.bl k/\Q k i:=by
 obtain⟨R,d,h,b,p,j,st,e,k⟩:=q;show dD w o l g e;cases w<;>simp only at g<;>first|(cases g;exact⟨R,d,h,_,_,j,st,l,λn i v x f rv=>⟨_,rv.bl_eq,k n i x f⟩⟩)|(cases g)
theorem Qr(g:RS)(i:zc9)(l:qQ)(j:BM)(h:RF:=by rfl):PMT X Rv (Qy zK1):=
 Qgc (Qlr g l j h) λ_ _ _ q=>V7 (Ql5 (QhX q)) (zr3 i)
noncomputable def Qr1(f e:W->W->MH->bF)(ma mb mc:ME):ME:=λd h=>(ma d h).bind λp=>(mb d p.2).bind λq=>(f p.1 q.1 q.2).bind λz=>match z.1 with
 |g7=>(mc d z.2).bind λy=>e q.1 y.1 y.2
 |iL=>sO (iL,z.2)
 |_=>nO
noncomputable def Qky(ma mb:ME):ME:=λd h=>(ma d h).bind λp=>match p.1 with|g7=>mb d p.2|iL=>sO (iL,p.2)|_=>nO
noncomputable def Vy(ma mb:MT):MT:=λd h=>(ma d h).bind λp=>match p.1 with|true=>mb d p.2|false=>sO (false,p.2)
noncomputable def Qbp(ma mb:MT):MT:=λd h=>(ma d h).bind λp=>match p.1 with|true=>sO (true,p.2)|false=>mb d p.2
noncomputable def Qbj(ma:MT):MT:=λd h=>(ma d h).bind λp=>sO (!p.1,p.2)
noncomputable def mIf(t:MT)(ma mb:ME):ME:=λd h=>(t d h).bind λp=>match p.1 with|true=>ma d p.2|false=>mb d p.2
variable{rest:fY}{ta tb:MT}
theorem Qom{op}(h:qQ):PM X (.BoolOp op [a] pos) ma:=Qoh h
theorem Qja(o:qQ)(n:PM X Rf mb):PM X PX (Qky ma mb):=ZH (Qm0 o n) <|by
 rintro s H Q ⟨R,f,h,w,p,m,st,e,k⟩
 show dD a j q d e;refine⟨R,f,h,a,j,m,st,q,λR1 r x i g l=>?_⟩;cases a with
 |bl t=>
  refine⟨t,l.bl_eq,?_⟩;cases t with
  |true=>exact Qj8 ⟨R1,f,j,w,p,g,r6 i,d,k.ext i⟩
  |false=>cases d;exact QlG (k R1 r _ i g i9)
 |non=>cases d
 |int _=>cases d
 |str _=>cases d
 |tup _=>cases d
 |lst _=>cases d
 |frz _=>cases d
 |ref _=>cases d
 |ty _=>cases d
def PMW(X:Cx)(e:Expr)(m:MT):Prop:=PW X e (tIT X.K m)
theorem PMW.pt(h:PMW X e m):PMT X e m:=PW.pt h
theorem Ql0{K:Ng}(q:tIT K (Vy ta tb) σ H Q):Qq2 (tIT K ta) (tIT K tb) σ H Q:=by
 obtain⟨R,d,h,w,n,m,st,e,k⟩:=q;show dD a i o j e;refine⟨R,d,h,a,i,m,st,o,eE R1 r g f⟩;cases a with
 |true=>exact Qj8 ⟨R1,d,i,w,n,f,r6 g,j,λR2 p l=>k R2 p (dX g l)⟩
 |false=>cases j;exact QlG (k R1 r g f)
theorem Qn2{K:Ng}(q:tIT K (Qbp ta tb) σ H Q):tOr (tIT K ta) (tIT K tb) σ H Q:=by
 obtain⟨R,d,h,w,n,m,st,e,k⟩:=q;show dD a i o j e;refine⟨R,d,h,a,i,m,st,o,eE R1 r g f⟩;cases a with
 |true=>cases j;exact Qj8 (k R1 r g f)
 |false=>exact QlG ⟨R1,d,i,w,n,f,r6 g,j,λR2 p l=>k R2 p (dX g l)⟩
theorem Jc(d:Mq):PMW X jq3 ta:=Qki d
theorem XZ(d:Mq):PMW X jt7 ta:=QmM d
theorem Jd(e:Mq)(d:PMW X Rf tb):PMW X PX (Vy ta tb):=Qjr (QnM e d) λ_ _ _=>Ql0
theorem X3(e:Mq)(d:PMW X jg9 tb):PMW X jd8 (Qbp ta tb):=Qjr (Qpe e d) λ_ _ _=>Qn2
theorem WW(j:Mq):PMT X jt8 (Qbj ta):=Qgc (Qoi j) <|by
 rintro p H Q ⟨R,d,h,w,q,i,st,e,k⟩
 show dD a l m n e;cases n;exact⟨R,d,h,a,l,i,st,m,λR1 o g f=>k R1 o g f⟩
theorem QjU(n:PMT X c ta)(p:qQ)(o:BM):PM X (.IfExp c a b pos) (mIf ta ma mb):=ZH (QgM n p o) <|by
 rintro r H Q ⟨R,d,h,w,j,m,st,e,k⟩
 show dD t i q l e;refine⟨R,d,h,t,i,m,st,q,eE R1 s g f⟩;cases t with
 |true=>exact Qj8 ⟨R1,d,i,w,j,f,r6 g,l,k.ext g⟩
 |false=>exact QlG ⟨R1,d,i,w,j,f,r6 g,l,k.ext g⟩
noncomputable def QfL(h:MH):W->Option Bool
 |.non=>sO false
 |.bl b=>sO b
 |aC i=>sO (i != 0)
 |c4 x=>if Db then sO ((x.length:Int) != 0)else nO
 |fD=>AU
 |eV=>AU
 |nK=>AU
 |aF n=>match h[n]? with|some i8=>AU|some Bw=>sO (!kvs.isEmpty)|_=>nO
 |.ty _=>nO
noncomputable def Qae(m:ME):MT:=λd h=>(m d h).bind λp=>(QfL p.2 p.1).map λb=>(b,p.2)
theorem Rws.isEmpty{K:Ng}(r:iW d):ws.isEmpty=d.isEmpty:=by
 have:=r.length;cases ws<;>cases d<;>simp at this ⊢
theorem QnX{K:Ng}{v:V}{b:Bool}(j:eG)(r:fI)(e:QfL h w=sO b):QqG K v H b:=by
 cases w with
 |non=>rw[r.non_eq];cases e;rfl
 |bl b=>rw[r.bl_eq];cases e;rfl
 |int i=>rw[r.int_eq];cases e;rfl
 |str x=>
  rw[r.str_eq];simp only[QfL]at e;split at e
  ·show g6 q e;exact⟨q,rfl⟩
  ·cases e
 |tup l=>
  obtain⟨a,g,rfl,f,d⟩:=j.tupAt r;cases e;exact .inr (.inl ⟨g,f,SY⟩)
 |lst l=>
  obtain⟨a,g,rfl,f,d⟩:=j.lstAt r;cases e;exact .inl ⟨g,p6 f,SY⟩
 |frz l=>
  obtain⟨a,g,rfl,f,d⟩:=j.frzAt r;cases e;exact .inl ⟨g,f,SY⟩
 |ref n=>
  simp only[QfL]at e;split at e
  ·show lE l o e;obtain⟨_,rfl,g,f,d⟩:=j.refAt r o;exact .inl ⟨g,p6 f,SY⟩
  ·show lE m o e;show dW r;obtain⟨p,f,d⟩:=nN j o;rw[r.2];refine .inr (.inr ⟨p,f,?_⟩);have:=Ef d;cases m<;>cases p<;>simp at this ⊢
  ·cases e
 |ty _=>cases e
theorem Xg(n:qQ)(m:zN6:=by intro _;rfl):PMT X a (Qae ma):=
 Qgc (Qhf n m) λt H Q g=>by
  obtain⟨R,f,h,w,y,l,st,e,k⟩:=g;show dD a u p r e;show eD b o q r;exact⟨R,f,h,a,_,l,st,p,λR1 s x i d j=>⟨_,QnX d j o,k R1 s i d⟩⟩
#print "-"
noncomputable def UI:Expr->Bool
 |.ListComp ..=>true
 |.SetComp ..=>true
 |.DictComp ..=>true
 |_=>false
theorem K6(h:BB):swapsWith e t l env=sS:=by
 cases e<;>first|rfl|cases h
noncomputable def QR:SM:=λa h=>gP a h
noncomputable def QG(a b:SM):SM:=λd h=>(a d h).bind λr=>match r with|.nx c e=>b c e|r=>sO r
noncomputable def Zw(m:ME):SM:=λa h=>(m a h).map λp=>.rt p.1 p.2
noncomputable def Ja(t:MT)(a b:SM):SM:=λc h=>(t c h).bind λp=>match p.1 with|true=>a c p.2|false=>b c p.2
noncomputable def Vi(m:ME):SM:=λa h=>(m a h).map λp=>.nx a p.2
noncomputable def Zi(i:Nat)(m:ME):SM:=λa h=>(m a h).map λp=>S6 a p
noncomputable def Ql7(i:Nat)(f:W->W->MH->bF)(m:ME):SM:=λa h=>match a[i]? with
 |some (sO x)=>(m a h).bind λp=>(f x p.1 p.2).map λq=>S6 a q
 |_=>nO
section
variable{X:Cx}{st:Stmt}{rest:lB}{a b:SM}{e:Expr}{m:ME}{pos:Pos}
theorem Qz:QeT X [] QR:=QfJ QkC <|by
 rintro D d H ⟨R,c,h,r,f,s,e,k⟩
 cases e;exact k R H d bV f s
theorem QnD{K:Ng}(q:tS K (QG a b) D σ H):Qrb (tS K a) (tS K b) D σ H:=by
 obtain⟨R,g,h,r,p,s,e,k⟩:=q;show dJ j t f e;refine⟨R,g,h,j,p,s,t,?_⟩;cases j with
 |nx c d=>exact λR1 u l n i o=>⟨R1,c,d,r,i,o,f,Ends.ext k n⟩
 |rt w d=>cases f;exact k
 |bk c d=>cases f;exact k
 |ct c d=>cases f;exact k
theorem Qf(h1:PMS X st a)(h2:QeT X rest b):QeT X (st::rest) (QG a b):=QfJ (Qg9 h1 h2) λ_ _ _=>QnD
theorem Qi(h1:PMS X st a):QeT X [st] a:=Qkv h1
theorem Q7(l:zP)(j:BB:=by rfl):PMS X (.Expr e pos) (Vi m):=X4 (QkI l (K6 j)) <|by
 rintro D g H ⟨R,c,h,r,i,s,e,k⟩
 show pB w n p o e;exact⟨R,c,h,w,n,i,s,p,λR1 q v f d _=>k R1 q g f d (s.mono f)⟩
theorem Qt(f:zP):PMS X (.Return (sO e) pos) (Zw m):=X4 (QmC f) <|by
 rintro D l H ⟨R,c,h,r,d,s,e,k⟩
 show pB w g j i e;exact⟨R,c,h,w,g,d,s,j,k⟩
theorem QC(p:PMT X c t)(u:QeT X n a)(q:QeT X l b):PMS X (.If c n l pos) (Ja t a b):=X4 (Qp6 p u q) <|by
 rintro D w H ⟨R,d,h,r,o,s,e,k⟩
 show dD z i v j e;refine⟨R,d,h,z,i,o,s,v,eE R1 x g f⟩;cases z with
 |true=>exact Qj8 ⟨R1,d,i,r,f,s.mono g,j,Ends.ext k g⟩
 |false=>exact QlG ⟨R1,d,i,r,f,s.mono g,j,Ends.ext k g⟩
theorem Qo(hN:X.N.Nodup)(o:l7)(l:nX)(q:zP)(n:BB:=by rfl)(p:nQ:=by show u6) :
  PMS X (.Assign [.Name x g] e pos) (Zi i m):=X4 (Qot hN o l q (K6 n) p) <|by
 rintro D A H ⟨R,c,h,r,j,s,e,k⟩
 show pB w t y u e;exact⟨R,c,h,w,t,j,s,y,zZ2 z f⟩
theorem QnT(c:OpR X (inplaceOp op) r):PIp X op r:=c
theorem Qez(hN:X.N.Nodup)(I:l7)(F:nX)(G:OpR X (inplaceOp op) r)(J:zc9)(L:zP)
  (p:nQ:=by show u6):PMS X (.AugAssign (.Name x t) op e pos) (Ql7 i f m):=
 X4 (QmI hN I F L (QnT G) p) λD U H A=>by
  obtain⟨R,c,h,r,E,s,e,k⟩:=A;unfold Ql7 at e;split at e
  ·rename_i B n;show dD w u S Q e;show pB z M P O Q;obtain⟨v0,o,g⟩:=s.2 i _ n;refine⟨v0,o,R,c,h,w,u,E,s,S,qO Y v d l⟩;exact J _ _ _ _ ⟨R1,u,B,w,z,M,l,sU d g,rv,P,λR2 T y q j C=>k R2 T _ (dX d q) j ((s.mono (dX d q)).set C)⟩
  ·cases e
#print "-"
noncomputable def Ql8(r:zI):bF:=match r with|some zh0=>d7 w h|some (.nx _ h)=>zd0|_=>nO
noncomputable def QM(more:Nat)(m:SM):FM:=λa h=>Ql8 (m (a.map sO++List.replicate more nO) h)
theorem Rst.start{K:Ng}(r:iW d)(k:Nat)(f:N.length=ws.length+k):Rst K R (ws.map sO++List.replicate k nO) (start N d):=by
 show cP c r;unfold L2.start;refine⟨zX f c,aM i w e⟩
 by_cases b:i<ws.length
 ·rw[NJ (bZ b)]at e;rw[NJ (by simpa[<-c]using b)];rw[Nq]at e ⊢;show eD l a j e;show iJ v h g r a;exact⟨v,by rw[h];rfl,g⟩
 ·rw[Dw (bZ b)]at e;rw[Oq]at e;split at e<;>cases e
section
variable{P:Program}{w:World}{K:Ng}{mg:eK}{base:Heap}
theorem Qo7{st:Stmt}{N ps:aO}{m:SM}(F:zJ6 c)(S:FnScope N ps nH)(hN:ju2)
  (g:∀(b:Value) (A:Around) (a:kI) (s:Shared) (H:Hp) (E:XK),zm4 c b->QeT (Qjh CX0 P w K mg base N c nH f b A a s H E).nox wC m) :
  FnOk P w K mg base CX0 (k+1) f fd ps (spM K ps.length (QM more m)):=by
 refine F.ok S (λv H Q E q=>?_) (λb A a s H v Q E y q=>?_)
 ·obtain⟨R,u,h,w,B,l,j,d,_⟩:=q;show u3 d;exact l
 ·refine⟨_,g b A a s H E y,?_⟩;obtain⟨R,u,h,w,B,l,j,d,e,o⟩:=q;have st:=Rst.start (N:=N) d more (by rw[hN,l]);unfold QM Ql8 at e;split at e
  ·rename_i D z n;cases e;exact⟨R,_,h,_,j,st,n,o⟩
  ·rename_i p z n;cases e;exact⟨R,_,h,_,j,st,n,λR1 C r t i _=>o R1 C .non t i Rw.non⟩
  ·cases e
#print "-"
section
variable{X:Cx}{CX:CXT}{k:Nat}{f:Addr}{fd:FuncData}{ps:aO}{g:FM}{E:XK}{x:Str}{p pos:Pos}{e:Expr}{es:fY}{ms:MA}
noncomputable def Qv(n:Nat)(g:FM)(ms:MA):ME:=mFn (λa h=>if a.length=n then g a h else nO) ms
theorem QfM{K:Ng}(q:tI K (Qv n g ms) σ H Q):QkX (spM K n g) [] E (tIA K ms) σ H Q:=by
 refine Qad (Qdr q) (aM l m b);obtain⟨R,h,c,w,j,d,a,e,k⟩:=b;show rS e
 ·rename_i i;exact⟨R,c,h,w,j,i,d,by rw[Dd];exact a,e,k⟩
 ·cases e
theorem QjY(F:zP2)(d:zD)(j:j1)(h:kO=sO (aD f))(i:DI X.K (aD f)=true)(m:Binds X.K fd ps [])(c:MK)
  (n:PMA X i1 ms) (b:i4:=by decide) (l:nB:=by rfl) (a:vJ:=by rfl) :
  PM X xC (Qv ps.length g ms):=ZH (Qlo F d j h i m .nil c n b (Q2 l) (JP a)) λ_ _ _=>QfM
theorem QgV(F:zP2)(i:zD)(m:j1)(j:kO=sO (aD f))(l:DI X.K (aD f)=true)(n:Binds X.K fd ps [])(d:MK)
  (a:i4:=by decide):PM X zq1 (Qv ps.length g Ql):=ZH (QhN F i m j l n .nil d a) λo H Q q=>by
 obtain⟨R,b,h,r,s,c,st,e,k⟩:=QfM (E:=E) q;cases e;exact k R H [] bV c Rws.nil
#print "-"
section
variable{X:Cx}{x:Str}{p pos:Pos}{e:Expr}{es:fY}{ms:MA}{id T:String}{r:bA->fG}{f:aI->MH->bF}
theorem Qw(m:CallR X sA r)(j:Qkw X.K r f)(i:j1)(h:kO=nO)(d:pQ=sO sA)(n:PMA X i1 ms)(g:pP:=by decide)(b:i4:=by decide)
  (l:nB:=by rfl) (a:vJ:=by rfl):PM X xC (mFn f ms):=
 ZH (QhE m i h d n g b (Q2 l) (JP a)) zW6
theorem Q5(m:CallR X vQ r)(j:Qkw X.K r f)(i:j1)(h:kO=nO)(d:pQ=sO vQ)(n:PMA X i1 ms)(g:pP:=by decide)(b:i4:=by decide)
  (l:nB:=by rfl) (a:vJ:=by rfl):PM X xC (mFn f ms):=
 ZH (Qel m i h d n g b (Q2 l) (JP a)) zW6
#print "-"
inductive Src where
 |l (n:Nat)
 |d (n:Nat)
 |r (n:Nat)
 |v (n:Nat)
 |i (n:Nat)
 |z (n m a b:Nat)
noncomputable def Src.ok(items:aI)(h:MH):Src->Prop
 |.l n=>h[n]?=sO (.lst items)
 |.d n=>∃kvs,xS/\kvs.map (·.1)=items
 |.r n=>h[n]?=sO (.lst items.reverse)
 |.v n=>∃kvs,xS/\kvs.map (·.2)=items
 |.i n=>∃kvs,xS/\kvs.map (λp=>.tup [p.1,p.2])=items
 |.z n m a b=>∃as bs,h[n]?=sO (.lst as)/\h[m]?=sO (.lst bs)/\(as.zip bs).map (λq=>.tup [q.1,q.2])=items/\as.length=a/\bs.length=b
def live(src:sV)(items:aI)(h:MH):Prop:=∀n,src=sO n->n.ok items h
noncomputable abbrev MI:=MSt->MH->Option (aI×sV×MH)
structure ItOk(K:Ng)(R:Rn)(J:It)(items:aI)(src:sV):Prop where
 go:∀i w R' h H,jV->BX H->pJ->t9=sO w->J.go i H
 yld:∀i w R' h H x H',jV->BX H->pJ->t9=sO w->zi3 H'->∃R'',Ext R' R''/\Rh K R'' h H'/\Rw K R'' w x
 stop:∀i R' h H,jV->BX H->pJ->items.length<=i->zf3
noncomputable def tII(K:Ng)(m:MI):TI:=λf H C=>∃R a h items b d,eG/\iP R a f/\m a h=sO (items,b,d)/\∀c e J,kT c->Rh K c d e->ItOk K c J items b->C J e
def PMI(X:Cx)(a iter:Expr)(m:MI):Prop:=PI X a iter (tII X.K m)
theorem UN(h:PI X b iter t)(i:∀σ H C,t' σ H C->t σ H C):PI X b iter t':=λa s σ H C I q=>h a s σ H C I yV
noncomputable abbrev MG:=W->MSt->MH->Option MSt
noncomputable def tIG(K:Ng)(b:MG):TG:=λv g H C=>∃R a h w c,eG/\iP R a g/\fI/\b w a h=sO c/\∀e f d,kT e->Rh K e h f->iP e c d->C d f
def PMG(X:Cx)(a:Expr)(b:MG):Prop:=PG X a (tIG X.K b)
theorem Qje(h:PG X b t)(i:∀v σ H C,t' v σ H C->t v σ H C):PG X b t':=λa s σ H v u C I r q=>h a s σ H v u C I r (i _ _ _ _ q)
noncomputable def ZP(i:Nat):MG:=λw a _=>sO (a.set i tV)
theorem QV(hN:X.N.Nodup)(f:l7)(d:nX)(g:nQ:=by show u6) :
  PMG X mY (ZP i):=Qje (QdY hN f d g) <|by
 rintro v j H C ⟨R,a,h,w,b,c,st,rw,e,k⟩
 cases e;exact k R H _ bV c (st.set rw)
open Classical in
noncomputable def JX(items:aI)(src:sV)(b:MG)(body:SM):aI->SM
 |[],σ,h=>if pJ then gP σ h else nO
 | w::r,σ,h=>if pJ then(b w σ h).bind λσ1=>(body σ1 h).bind λz=>match z with
   |.nx σ2 h2=>zD3 σ2 h2
   |.ct σ2 h2=>zD3 σ2 h2
   |.bk σ2 h2=>gP σ2 h2
   |.rt v h2=>vS h2
  else nO
noncomputable def Ve(mi:MI)(b:MG)(body:SM):SM:=λa h=>(mi a h).bind λp=>JX p.1 p.2.1 b body p.1 a p.2.2
section
variable{X:Cx}{tg iter:Expr}{body:lB}{mi:MI}{b:MG}{m:SM}{pos:Pos}
theorem Qow{K:Ng}(q:tS K (Ve mi b m) D σ H):Qr5 (tII K mi) (tIG K b) (tS K m) D σ H:=by
 obtain⟨R,A,h,r,rh,s,e,k⟩:=q;obtain⟨⟨items,t,h1⟩,e1,e2⟩:=dH e;refine⟨R,A,h,items,t,h1,rh,s,e1,λR1 H1 J x1 aa it=>?_⟩;refine⟨λi n σ H=>i+n=items.length/\∃R2 g l,zi5/\Rh K R2 l H/\iP R2 g σ/\∃r,JX items t b m (items.drop i) g l=sO r/\zF R2,⟨items.length,aP,R1,A,h1,qK,aa,s.mono x1,r,cN e2,Ends.ext k x1⟩,?_⟩
 rintro i n E S ⟨ae,R2,g,l,G,j,s2,r2,d,L⟩
 by_cases M:i<items.length
 ·obtain⟨w,hw⟩:∃w,t9=sO w:=⟨items[i],Nj M⟩
  have hd:ZB=w::items.drop (i+1):=by
   rw[EY M];rw[Nj M]at hw;cases hw;rfl
  rw[hd]at d;unfold JX at d;split at d
  ·rename_i P;show dJ C e4 e5 d;show dJ z e6 Q e5;refine .inr ⟨it.go i w R2 l S G j P hw,λF T=>∃y B h4,Ext R1 y/\Rh K y h4 T/\iP y B F/\∃r,JX items t b m (items.drop (i+1)) B h4=sO r/\zF y,λF T hn=>⟨n-1,cC,cC,hn⟩,λx T hy=>?_⟩;obtain⟨y,p,Z,U⟩:=it.yld i w R2 l S x T G j P hw hy;refine⟨y,g,l,w,C,Z,s2.mono p,U,e4,λR4 H4 ab u Y s4=>?_⟩;refine⟨R4,C,l,z,Y,s4,e6,?_⟩;cases z with
   |nx f N=>exact λO H5 a o c I=>⟨O,f,N,G.trans (iG p u o),c,I,r2,Q,Ends.ext L (iG p u o)⟩
   |ct f N=>exact λO H5 a o c I=>⟨O,f,N,G.trans (iG p u o),c,I,r2,Q,Ends.ext L (iG p u o)⟩
   |bk f N=>cases Q;exact λO H5 a o c I=>L O H5 a (iG p u o) c I
   |rt v N=>cases Q;exact After.ext L (dX p u)
  ·cases d
 ·have hd:ZB=[]:=Du (hP M);rw[hd]at d;unfold JX at d;split at d
  ·show g6 P d;exact .inl ⟨it.stop i R2 l S G j P (hP M),L R2 S E bV j s2⟩
  ·cases d
theorem Zm(c:PassesOwn bU X.A X.env X.xe)(f:fH)(d:SZ)(e:PMG X tg b)(g:QeT X body m)
  (a:u5:=by intro _;rfl):PMS X ji7 (Ve mi b m):=X4 (QmX c f d e g a) λ_ _ _=>Qow
#print "-"
noncomputable def Zd(t:MT)(body:SM):Nat->SM
 |0,_,_=>nO
 | n+1,σ,h=>(t σ h).bind λp=>match p.1 with
  |false=>sO (.nx σ p.2)
  |true=>(body σ p.2).bind λz=>match z with
   |.nx σ2 h2=>zH3 n
   |.ct σ2 h2=>zH3 n
   |.bk σ2 h2=>gP σ2 h2
   |.rt v h2=>vS h2
section
variable{X:Cx}{c:Expr}{body:lB}{t:MT}{m:SM}{pos:Pos}
theorem Qh3{K:Ng}(q:tS K (Zd t m n) D σ H):QiR (tIT K t) (tS K m) D σ H:=by
 obtain⟨R,E,h,r,T,s,e,k⟩:=q;refine⟨λn σ H=>∃R2 b B,Rh K R2 B H/\iP R2 b σ/\∃r,Zd t m n b B=sO r/\zF R2,⟨n,R,E,h,T,s,r,e,k⟩,?_⟩
 rintro n j H2 ⟨R2,b,B,G,F,M,I,w⟩
 cases n with
 |zero=>cases I
 | succ n=>
  unfold Zd at I;show dD z O Z P I;refine⟨R2,b,B,z,O,G,F,Z,eE Q H3 g u⟩;cases z with
  |false=>
   cases P;exact QlG (w Q H3 j g u (F.mono g))
  |true=>
   show dJ y Y C P;refine Qj8 ⟨λl S=>∃J i N,Rh K J N S/\iP J i l/\∃r,Zd t m n i N=sO r/\zF J,λl S U=>⟨n,N6 _,U⟩,?_⟩;refine⟨Q,b,O,y,u,F.mono g,Y,?_⟩;cases y with
   |nx f x=>exact λA L a o d p=>⟨A,f,x,d,p,M,C,Ends.ext w (dX g o)⟩
   |ct f x=>exact λA L a o d p=>⟨A,f,x,d,p,M,C,Ends.ext w (dX g o)⟩
   |bk f x=>cases C;exact λA L a o d p=>w A L a (dX g o) d p
   |rt v x=>cases C;exact After.ext w g
theorem Yc(n:Nat)(a:PassesOwn bU X.A X.env X.xe)(b:PMT X c t)(d:QeT X body m):PMS X jq4 (Zd t m n):=X4 (Qig a b d) λ_ _ _=>Qh3
#print "-"
section
variable{prog:Program}{w:World}{A:Around}{E:bJ}{R:Result->eA}{s:Shared}
theorem Qbr(I:Nat->eA)
  (q:∀n s,I n s->wpAny aT A (pyNext it) (λr d=>match r with
   |none=>R (.ok .next) d
   | dY v=>wpAny aT A (letOwnedTupleGo target it v) (λ_ b=>wpAny aT A (assign target env v) (λ_ i=>
     wpAny aT A (forIn t true λc r=>if r=true then do let ok <-isTrue c env (eval c env);ju3 else jr0) (λok a=>
      if ok=true then wpAny aT A (eval B env) (λx g=>
       wpAny aT A (call (.builtin "list.append") [C,x]) (λ_ f=>∃m,m<n/\I m f) m1 g) m1 a
      else∃m,m<n/\I m a) m1 i) m1 b) m1 d) m1 s)
  (n:Nat) (h:I n s) :
  codeAny aT A (.compLoop zU6 0 it C env) R s:=by
 refine codeAny_loop rfl I (jZ n s D) n h;show wpAny _ A ((compTurn zU6 0 it C env).onRaise (λx=>do noteFrame x env;theTreesLotGoes x)) _ _ s;refine wpAny_noted ?_;rw[compTurn_list];refine Na (IK (Na (N8 (q n s D) (jZ r d l) (mB e))));cases r with
 |none=>exact Nh l
 | some v=>
  refine Na (N8 l (λ_ b p=>?_) (mB e));refine Na (N8 p (λ_ i z=>Na (N8 z (λok a j=>?_) (mB e))) (mB e));cases ok with
  |false=>exact Nh (A5 j)
  |true=>
   exact Na (Na (N8 j (λx g y=>Na (N8 y (λ_ f u=>Nh (Nh (A5 u))) (mB e))) (mB e)))
#print "-"
theorem sz{h:Heap}(e:cQ b=sO o)(a:h.objs.size<=n):¬b=n:=λz=>by
 have c:@LT.lt Nat instLTNat b h.objs.size:=NC e;subst z;exact EA _ (Ni c a)
noncomputable abbrev blk(X:Cx)(a:Scope)(cl:yA)(Nb:aO)(s₀:Shared)(H₀:Hp)(C:Addr)(ex:gO)(pn:bT):Cx:=
 { X with N:=Nb,s₀:=s₀,H₀:=H₀,env:=compEnvC a cl C X.env,outer:=X.stack,stack:=X.stack,ex:=ex,fn:=λ_=>false,pn:=pn,xe:=XL }
structure BlkOk(X:Cx)(scope:Scope)(cl:yA)(Nb:aO)(cp:lT):Prop where
 clos:closureFor scope X.env=pure cl
 cell:∀y∈scope.names,zd1
 kind:scope.kind=.function
 names:∀y∈scope.names,y.2=.local->scope.names.lookup y.1=qP
 sub:∀x c,He->jK
 has:∀x,(PC=kJ\/PC=mK)->∃c,He
 len:zx6
 cap:∀(i j:Nat) (x:Str),cp[i]?=sO (sO j)->Nb[i]?=sO x->X.N[j]?=sO x/\H9/\(Hu=kJ\/Hu=mK)/\(PC=kJ\/PC=mK)
noncomputable def QaW(cp:lT)(σ:L2.St):L2.St:=zO2
noncomputable def QhI(l:TI)(cp:lT)(g:TG)(tt:TT)(te:TE):TE:=λf H Q=>l f H λJ p=>∃W:Nat->Nat->bA->L2.St->dQ,(∃m,W 0 m [] (QaW cp f) p)/\∀i m a e H,W i m a e H ->
 (zf3/\∀D,H D=nO->Q (aD D) (upd H D nF)) \/
 (J.go i H/\∀x j,zi3 j->g x e j λc o=>tt c o λb h=>if b=true then te c h λv n=>SD/\∃d,d<m/\W (i+1) d (a++[v]) c n else∃d,d<m/\W (i+1) d a c h)
theorem Inv.track(I:cI d σ)(g:H D=nO)(h0:X.s₀.heap.objs.size<=D)(hL:X.env.locals≠D)(j:∀x c,jK->c≠D)
  (i:∀p∈X.pn++d,p.1≠D) (ob:ObjOk X.prog X.w (nM D) s.heap D o):Inv X d σ (nM D) s where
 ok:=I.ok
 os:=I.os
 bare:=I.bare
 base:={
  keep:=I.base.keep
  slot:=I.base.slot
  free:=λb q e n nx=>by
   have:b≠D:=sz e h0;rw[QZ this];exact I.base.free b q e n nx
  there:=I.base.there
  tups:=λb h e=>by
   have q:=I.base.tups b h e;show An z q
  frzs:=λb q u e=>by
   have z:=I.base.frzs b q u e;show An y z
  tbls:=λb ps e=>by
   obtain⟨more,q⟩:=I.base.tbls b ps e
   exact⟨more,by show An z q⟩ }
 loc:=I.loc
 cell:=I.cell
 free:=by rw[QZ hL];exact I.free
 freeC:=λx c e=>by rw[QZ (j x c e)];exact I.freeC x c e
 pin:=λp f=>by
  obtain⟨a,b,c⟩:=I.pin p f;exact⟨a,by rw[QZ (i p f)];exact b,c⟩
 hok:=λa u e=>by
  by_cases z:a=D
  ·subst z;rw[VX]at e;cases e;exact ob
  ·rw[QZ z]at e;refine(I.hok a u e).stay (λ_ _ _ q=>q) (λb q=>?_) (jZ b h q)
   ·show An y q
   ·show An y q
 len:=I.len
section
variable{X:Cx}{elt tg iter:Expr}{ifs:fY}{scope:Scope}{pos:Pos}{cl:yA}{Nb:aO}{cp:lT}{wi:TI}{g:TG}{tt:TT}{te:TE}
theorem Cx.Ok.blk(B:uD)(I:cI d σ)(f:∀b∈l,Ab d H)(i:∀b∈l,pE)(j:s.heap.objs.size<=C) :
  (blk X scope cl Nb s H C l p).Ok where
 mod:=I.ok.mod
 kind:=B.kind
 glob:=I.ok.glob
 blt:=I.ok.blt
 above:=j
 inj:=λx y c n m=>I.ok.inj x y c (B.sub x c n) (B.sub y c m)
 has:=λx h=>B.has x h
 cab:=λx c h=>absurd h aB
 hd:=I.ok.hd
 frames:=I.ok.frames
 stk:=wA
 exf:=λb a=>⟨λz=>by have:=i b a;rw[z]at this;exact absurd j (Iq.mpr this),λx c e=>(f b a).2.2.2.2.1 x c Hy⟩
 bs:=I.bs
 bsz:=Nn I.ok.bsz I.sz
 noex:=λb o e a=>by
  rcases(f b a).2.2.2.1 with z|z
  ·exact I.ok.noex b o e z
  ·exact sz e (Nn I.ok.bsz z) rfl
 exfs:=λb a z=>by
  have:=I.stkSub b z
  rcases NM.mp this with q|q
  ·exact(f b a).2.1 q
  ·exact(f b a).2.2.1 q
 funs:=I.stack
 frf:=λb a=>I.stkFree b a
theorem Qgd{cp:lT}{σ:L2.St}{i:Nat}{v:V}(e:(QaW cp σ)[i]?=sO jD):∃j,cp[i]?=sO (sO j)/\σ[j]?=sO jD:=by
 unfold QaW at e;rw[Nq]at e;show hV o c a e;cases o with
 |none=>cases a
 |some j=>
  show r4 j c;simp only at a;split at a
  ·rename_i u b;rw[b,a]
  ·cases a
theorem Inv.blk{H:Hp}{C:Addr}{M:gO}{tk:Nat}(B:uD)(I:cI f σ)(O:∀b∈M,Ab f H)(F:∀b∈M,pE)
  (G:s.heap.objs.size<=C) (D:h'.Ns C m) (y:∀b o,fL):Inv (Mi.blk X scope cl Nb s H C M (X.pn++f)) [] (QaW cp σ) H { s with heap:=h',toks:=tk } where
 ok:=Cx.Ok.blk B I O F G
 os:=rfl
 bare:=I.bare
 base:=Un.kept y
 loc:=by
  refine⟨m,D,λi x v hN e Z=>?_⟩;obtain⟨j,S,R⟩:=Qgd e;obtain⟨Q,t,E,w⟩:=B.cap i j x S hN;obtain⟨Y,U,lk⟩:=I.loc;obtain⟨u,r,l⟩:=lk j x v Q R t;show r4 u r
  rcases l with⟨h,_⟩|⟨_,c,P,n⟩
  ·show CI E z h
  ·refine .inr ⟨w,?_⟩;obtain⟨T,A⟩:=B.has x w;have:=B.sub x T A;show lX P
   exact⟨c,A,by
    show fT o L J n
    exact⟨o,y _ _ L,J⟩⟩
 cell:=λx c e=>by
  obtain⟨v,o,L,J⟩:=I.cell x c Hy;exact⟨v,o,y _ _ L,J⟩
 free:=I.hok.fresh G
 freeC:=λx c e=>I.freeC x c Hy
 pin:=λp N=>by
  rw[Dd]at N;obtain⟨a,b,c,d,e⟩:=I.pin p N;refine⟨y _ _ a,b,k3 z,k3 z,e⟩
  ·have:=NC a;rw[z]at this;exact absurd G (Iq.mpr this)
  ·show zv5 I
   ·exact c q
   ·exact d q
 hok:=I.hok.kept y
 len:=by unfold QaW;rw[Ny];exact B.len
def Qo6(X:Cx)(a:bT)(σ:L2.St)(use:Option (Value->Sem Unit))(Q:VK)(Q':bJ):Prop:=
 ∀(D C:Addr) (d:Hp) (b:Shared) (m:eK),hQ a σ d b->b.heap.Ns C m->d C=nO->¬C=X.env.locals->X.s₀.heap.objs.size<=C->(∀x c,jK->c≠C)->(∀p∈X.pn++a,p.1≠C)->Q (aD D) d ->
  compPost bU X.A X.xe use Q' (aD D) C (.ok .next) b
theorem Qco(hc:fH)(B:uD)(hi:Td)(hg:∀O R C ex pn,PG PJ tg g)
  (ht:∀O R C ex pn,∀(j:bT) (s:Shared) (Z:L2.St) (H:Hp) (Q:Bool->dQ),Inv PJ j Z H s->tt Z H Q ->
   wpAny bU X.A zk0 (TP PJ j Z Q) m1 s)
  (he:∀O R C ex pn,PE PJ elt te) (hs:u5)
  (I:cI j σ) (h:QhI wi cp g tt te σ H Q) (a4:Qo6 X j σ use Q Q') :
  wpAny bU X.A (comprehension Ai scope X.env bn (newList []) false zy7 use) Q' X.xe s:=by
 refine wpAny_comprehension_free (use:=use) rfl hs B.clos B.kind B.names (N8 (hi j s σ H _ I h) (λxv bm U=>N8 U (λbo f a1=>?_) (fR e)) (fR e));obtain⟨it,fp,tn,J,Y,rfl,I2,T,ar,f2,W,⟨m0,w0⟩,ay⟩:=a1
 have au:∀b∈fp,b<f.heap.objs.size:=λb E=>by
  obtain⟨o,e,_⟩:=T.obj _ _ ar b E;exact NC e
 refine Eo (wpAny_newFunctionEnv B.cell (by intro y hy;simp at hy) (jZ U M F) B.kind);dsimp only at M F ⊢;generalize av:f.heap.push { cls:=dE,dict:=nO,data:=.seq ([]:aX).toArray }=G2 at M F ⊢;have al:G2.objs.size=f.heap.objs.size+1:=by rw[<-av,DK]
 generalize be:G2.objs.size=C at M F ⊢;rw[be]at al;have ab:f.heap.objs.size<=C:=by exact Nn cJ (Nt al.symm)
 have ai:f.heap.objs.size≠C:=by exact NB (Ni oZ (Nt al.symm))
 have old:∀b o,c9 f b=sO o->fU U=sO o:=λb o e=>F.extBut b o (sz e ab) (Nl _ (av▸Nl _ e));have an:xY U f=sO { cls:=dE,data:=.seq ([]:aX).toArray }:=F.extBut _ _ ai (Nl _ (av▸dF));generalize hD:f.heap.objs.size=D at an ai ab al ⊢;have m:f.heap.objs.size<=D:=Nt hD;have N:f.heap.objs.size<=C:=Nn m ab;have I3:=Inv.blk (tk:=f.toks+([]:SC).length) B I2 f2 au (C:=C) (Nn (Nt hD) ab) M old;have ao:D∉fp:=λz=>EA _ (Ni (au D z) m);have a5:C∉fp:=λz=>EA _ (Ni (au C z) N)
 have ax:∀x c,He->c≠D:=λx c e z=>by
  obtain⟨v,o,h3,_⟩:=I2.cell x c Hy;exact sz h3 m z
 have ap:∀p∈X.pn++j,p.1≠D:=jr1 m;have a7:∀p∈X.pn++j,p.1≠C:=jr1 N
 have bg:D∉frs X.stack:=λz=>by
  show zv5 I2
  ·exact zq2 q D m
  ·exact I2.nofs m q
 have aj:∀{t:Hp} {pl:bT},Sn->(∀p∈pl,p.1=D)->∀b∈fp,QdW mR pl t b:=λ{t pl} hn bb b E=>
  ⟨hn b E,λ(z:b=C)=>a5 (z▸E),λz=>by
   show zv5 I2
   ·exact(f2 b E).2.1 q
   ·exact(f2 b E).2.2.1 q,eH E,λx c e=>(f2 b E).2.2.2.2.1 x c Hy,λp P z=>by
   show iV P q
   ·exact(f2 b E).2.2.2.2.2 p q z
   ·rw[bb p q]at z;exact ao (z▸E)⟩
 have bp:∀{t:Hp},Sn->∀b∈fp,Ab j t:=jj1 E
 have fin:∀{Z:L2.St} {t:Hp} {L:Shared} {G:bA} {l:aX} {n:Nat} {mC:eK},Inv mR [] Z t L->t D=nO->c9 L D=sO { cls:=dE,data:=.seq l.toArray n }->Vals G l->G.length<=sizeLine->L.heap.Ns C mC ->
   (∀D,t D=nO->Q (aD D) (upd t D (.lst G)))->compPost bU X.A X.xe use Q' (aD D) C (.ok .next) L:=by
  intro Z t L G l n mC Ib ak aw r hz bc q;have Ie:hQ j σ t L:=I2.call' (ch:=fp) (Ib.os) Ib.base Ib.hok Ib.bare λb E=>zR0 f2 E
  have a2:X.s₀.heap.objs.size<=f.heap.objs.size:=I2.sz
  have It:Inv X j σ (upd t D (.lst G)) L:=Inv.track Ie ak (Nn a2 m) (λz=>zq2 z D m) (λx c e z=>by
   obtain⟨v,o,h3,_⟩:=BF I2
   exact sz h3 m z) ap ⟨hz,l,n,r,aw⟩
  exact a4 D C _ L mC It bc (by rw[QZ (EI ai)];exact Ib.free) (λz=>zq2 z C N) (Nn a2 N) (λx c e z=>by
   obtain⟨v,o,h3,_⟩:=BF I2
   exact sz h3 N z) a7 (q D ak)
 have am:∀af:Shared,af={ f with heap:=U,toks:=f.toks+([]:SC).length } ->
   codeAny bU X.A (.compLoop Ai 0 jU (aD D) zr0)
    (compPost bU X.A X.xe use Q' (aD D) C) af:=by
  rintro af rfl
  refine Qbr (λn L=>∃i Z t G l k,Inv mR [] Z t L/\BV L/\Sn/\t D=nO/\c9 L D=sO { cls:=dE,data:=.seq (l:aX).toArray k }/\Vals G l/\G.length<=sizeLine/\W i n G Z t) ?_ m0
   ⟨0,QaW cp σ,Y,[],[],_,I3,T.keep _ _ _ ar jr2,vD E f2,I2.hok.fresh m,an,.nil,NS _,w0⟩
  rintro n s3 ⟨i,Z,H3,G,l,k,Ib,az,a6,ak,aw,r3,as,w3⟩
  have a0:∀{S:L2.St} {t:Hp} {L:Shared},Inv mR [] S t L->t D=nO->c9 L D=sO { cls:=dE,data:=uN } ->
    Inv mR [(D,{ cls:=dE,data:=uN })] S t L:=λ{S t L} I' hn ho=>I'.pins_of λp P=>by
   rw[NG]at P;subst P;exact⟨ho,hn,ai,bg,by intro v;simp⟩
  have a8:=a0 Ib ak aw;have aa:∀p∈[(D,({ cls:=dE,data:=uN }:Obj))],p.1=D:=λp P=>by rw[NG]at P;subst P;rfl
  have a9:∀{S:L2.St} {t:Hp} {L:Shared},Inv mR [(D,{ cls:=dE,data:=uN })] S t L->c9 L D=sO { cls:=dE,data:=uN }/\t D=nO:=λI'=>by
   obtain⟨a,b,_⟩:=I'.pin (D,_) (N4 _ HL);show k5 a b
  rcases ay i n G Z H3 w3 with⟨stop,qn⟩|⟨go,step⟩
  ·refine N8 (T.done mR rfl rfl rfl hc i _ s3 Z H3 m1 a8 (aj a6 aa) az stop) (λr s4 ⟨hr,I4⟩=>?_) (mB z);subst hr;obtain⟨o4,n4⟩:=a9 I4;obtain⟨m4,ba,_⟩:=I4.loc;have bj:Inv mR [] Z H3 s4:=I4.pins_of λp P=>jC P
   exact fin bj n4 o4 r3 as ba qn
  ·refine N8 (T.item mR rfl rfl rfl hc i _ s3 Z H3 m1 a8 (aj a6 aa) az go) (λr s4 ⟨u,hr,h4⟩=>?_) (mB z);subst hr;refine N8 h4 (λ_ s5 z1=>?_) (mB z);obtain⟨x,H5,I5,r5,y5,aq,bf⟩:=z1;have bi:=I5.pinned (aj bf aa) (T.obj _ _ aq);refine N8 (hg f Y C fp zh1 _ s5 Z H5 x u _ bi r5 (step x H5 y5)) (λ_ s6 z0=>?_) (mB z);obtain⟨ae,H6,I6,q6⟩:=z0;refine N8 (ht f Y C fp zh1 _ s6 ae H6 _ I6 q6) (λok s7 ⟨H7,I7,q7⟩=>?_) (mB z)
   have ah:∀{S:L2.St} {t:Hp} {L:Shared},Inv mR ([(D,{ cls:=dE,data:=uN })]++Qax fp s5.heap) S t L->tn (i+1) L.heap/\Sn/\c9 L D=sO { cls:=dE,data:=uN }/\t D=nO:=λ{S t L} I'=>by
    refine⟨T.keep _ _ _ aq λb E o e=>(I'.pin (b,o) (SL E)).1,bG b E,?_⟩
    ·obtain⟨o,e,d⟩:=T.obj _ _ aq b E;exact(I'.pin (b,o) (SL E)).2.1
    ·obtain⟨a,b,_⟩:=I'.pin (D,{ cls:=dE,data:=uN }) (N4 _ (Em _ HL));show k5 a b
   cases ok with
   |false=>
    rw[if_neg Ea]at q7 ⊢;obtain⟨m',hm,w7⟩:=q7;obtain⟨t7,f7,o7,n7⟩:=ah I7;exact⟨m',hm,i+1,ae,H7,G,l,k,I7.pins_of (λp P=>jC P),t7,f7,n7,o7,r3,as,w7⟩
   | true=>
    rw[fO]at q7 ⊢;refine N8 (he f Y C fp zh1 _ s7 ae H7 _ I7 q7) (jZ y s8 z1) (mB z);obtain⟨v8,H8,I8,r8,bd,m',hm,w8⟩:=z1;obtain⟨t8,f8,o8,n8⟩:=ah I8;show cP a3 r3;refine IV NX (gN o8) Yau (Yab _ _) (YaT D l.toArray k y (by rw[Nr];exact Nn (cL a3) as)) ⟨o8,?_⟩;have q:=Ya1 o8 (·.push y);have hf:l.toArray.push y=(l++[y]).toArray:=aP
    rw[hf]at q;have bh:Inv mR [] ae H8 s8:=I8.pins_of λp P=>jC P
    have I9:Inv mR [] ae H8 { s8 with heap:=s8.heap.update D (Obj.mapSeq (·.push y)),toks:=s8.toks }:=
     bh.turned (it:=D) (λb o E e=>(EM s8.heap (Obj.mapSeq (·.push y)) (EI E)).trans e) n8 ai (.inr m) (λx c e=>ax x c e) λp P=>by
      rw[Dd]at P;exact ap p P
    refine⟨m',hm,i+1,ae,H8,G++[v8],l++[y],_,I9,T.keep _ _ _ t8 (λb E o e=>(EM s8.heap (Obj.mapSeq (·.push y)) (λ(z:D=b)=>ao (z▸E))).trans e),f8,n8,q,r3.append (ML r8),by rw[NK,Ei];exact bd,w8⟩
 exact codeAny_compStart_list (am _ rfl) (T.self _ 0 _ _ _ (T.keep _ _ _ ar jr2) (am _ rfl))
theorem Qft(L:fH)(B:uD)(F:Td)(G:∀a d C l j,PG (k9 a d l j) tg g)
  (v:∀a d C l j,∀(f:bT) (s:Shared) (n:L2.St) (H:Hp) (Q:Bool->dQ),Inv (k9 a d l j) f n H s->tt n H Q ->
   wpAny bU X.A zk0 (TP (k9 a d l j) f n Q) m1 s)
  (J:∀a d C l j,PE (k9 a d l j) elt te) (y:u5:=by intro _;rfl) :
  PE X Ai (QhI wi cp g tt te):=by
 show dU f S Q;rw[eval_ListComp];refine Qco L B F G v J y I h λD C R u m P p E hL N i z q=>⟨m,p,bG O t⟩
 exact⟨aF D,R,P.turned (t':=u.toks) (it:=C) (λb o M e=>t.extBut b o M e) E hL (.inr N) i z,rfl,q⟩
theorem Qlu(hN:X.N.Nodup)(O:l7)(T:nX)(hf:nQ)(J:swapsWith Ai (sO Ix) u.line X.env=pure true)
  (hc:fH) (B:uD) (hi:Td) (hg:∀d f C t p,PG (k9 d f t p) tg g)
  (U:∀d f C t p,∀(l:bT) (s:Shared) (F:L2.St) (H:Hp) (Q:Bool->dQ),Inv (k9 d f t p) l F H s->tt F H Q ->
   wpAny bU X.A zk0 (TP (k9 d f t p) l F Q) m1 s)
  (he:∀d f C t p,PE (k9 d f t p) elt te) (Y:u5:=by intro _;rfl) :
  PS X (.Assign [.Name x j] Ai u) (QoP (QhI wi cp g tt te) (QfC i)):=by
 show dU l σ D;rw[exec_Assign_Name_used _ _ _ _ J];refine Na (IK (Na ?_));show wpAny _ X.A (do let _ <-comprehension Ai scope X.env _ (newList []) false zy7 (sO (assign Ix X.env))) _ _ s;refine Na (N8 (Qco (use:=sO (assign Ix X.env)) (Q':=λ_ E=>SP X l D .next E) hc B hi hg U he Y I h λP C H' E m I' L hn hL h0 n hp q=>?_) (λ_ E Z=>Nh (Nh Z)) (fR e));show wpAny _ X.A (assign Ix X.env (aD P)) _ _ E;refine wpAny_assign_Name (QaX (v:=aF P) I' hN O T rfl (λS I5 ⟨a,R,y⟩=>?_) hf)
 have M:C≠a:=λz=>by
  show i7 y
  ·exact hL (dX z y)
  ·exact n x a y z.symm
 exact⟨m,L.sameBut R M,λaa G=>⟨_,H',I5.turned (t':=S.toks) (it:=C) (λb o hb e=>G.extBut b o hb e) hn hL (.inr h0) n hp,q⟩⟩
#print "-"
def IterR(X:Cx)(c:Expr)(r:V->Hp->(It->dQ)->Prop):Prop:=
 ∀(a:bT) (s:Shared) (b:L2.St) (H:Hp) (x:V) (v:Value) (C:It->dQ),cI a b->mJ->r x H C->wpAny bU X.A (pyIter v) (PIE X a b c C) X.xe s
section
variable{X:Cx}{tg:Expr}
theorem IterR.or(h:IterR X tg r)(h':IterR X tg d):IterR X tg (λx H C=>r x H C\/d x H C):=λa s b H x v C I c q=>by
 show i7 q
 ·exact h a s b H x v C I c q
 ·exact h' a s b H x v C I c q
theorem it_list:IterR X tg (λx H C=>∃a,x=aF a/\(∃xs,Tt)/\C (Itl X.K a) H):=by
 intro d c m l x v C I1 f g;obtain⟨a,e,⟨xs,i⟩,q⟩:=g;show p8 e f;show zi1 h p r i;refine FB p.isList ?_;refine⟨c.heap.objs.size,Tn c,_,_,l,rfl,I1.kept (t':=c.toks) rY,QeC a _,⟨_,dF,rfl,rfl⟩,bG b j,q⟩;have e:b=c.heap.objs.size:=cN j
 subst e;exact I1.fpOk c8 (I1.hok.fresh c8)
theorem QmB:IterR X tg (λx H C=>∃a,x=aF a/\(∃xs,Tu)/\C (Itt X.K a) H):=by
 intro f c m l x v C I1 g h;obtain⟨a,e,⟨xs,i⟩,q⟩:=h;show p8 e g;obtain⟨d,rv,p,r⟩:=I1.tuple i;refine DP (CG c a d p) ?_;refine⟨c.heap.objs.size,Tn c,_,_,l,rfl,I1.kept (t':=c.toks) rY,QdQ a _,⟨_,dF,rfl,rfl⟩,bG b j,q⟩;have e:b=c.heap.objs.size:=cN j
 subst e;exact I1.fpOk c8 (I1.hok.fresh c8)
noncomputable def Its(x:Str):It:=⟨λi _=>i<x.cps.size,λi H v a=>a=H/\∃c,x.cps[i]?=sO c/\v=HS c,λi _=>zK2⟩
noncomputable def Qbf(x:Str):aI:=x.cps.toList.map λc=>HS c
theorem QhW{P:Program}{w:World}{K:Ng}{tg:Expr}(it:Addr)(x:Str)(ty:String)(t:Tok)(f:ju4\/ty="str_iterator") :
  Turn P w K tg (Its x) [it] it (λi h=>i<=x.cps.size/\h.IsStrIter it ty x t i) where
 mem:=aP
 obj:=λi h st b j=>by
  have e:b=it:=cN j
  subst e;obtain⟨_,o,e,c,d⟩:=st;exact⟨o,e,λv z=>by show bK d z⟩
 keep:=λi h l st k=>⟨st.1,let⟨o,T,r⟩:=st.2;⟨o,k it aB o T,r⟩⟩
 item:=by
  intro X L hw M J i a s G H E I q st p;subst L hw M;obtain⟨U,st⟩:=st;obtain⟨F,f1,f2,D,C,B⟩:=q it aB;have g:i<x.cps.size:=p;have m:x.cps[i]?=sO (x.cps[i]'g):=NH g
  have fin:∀l:Heap,l.IsStrIter it ty x t (i+1)->zw4 l->∃u,sO (Value.str ⟨#[x.cps[i]'g]⟩ s.toks)=sO u/\wpAny bU X.A (letOwnedTupleGo tg jU u) (λ_ Q=>∃y O,hQ a G O Q/\cU y/\(Its x).yld i H y O/\(i+1<=x.cps.size/\Q.heap.IsStrIter it ty x t (i+1))/\∀b∈[it],O b=nO) E { s with heap:=l,toks:=nG }:=λl n S=>by
   have I1:Inv X a G H { s with heap:=l,toks:=nG }:=I.turned (RZ j S) F f1 D C B;show TM n;refine⟨_,rfl,Qdc (s:={ s with heap:=l,toks:=nG }) e c d (by rcases f with z|z<;>rw[z]<;>decide) ⟨.str ⟨#[x.cps[i]'g]⟩,H,I1,f9,⟨rfl,_,m,rfl⟩,fF p n,vD j q⟩⟩
  show hZ f z
  ·subst z;exact wpAny_pyNext_ascii_item st m fin
  ·subst z;exact wpAny_pyNext_wide_item st m fin
 done:=by
  intro X L hw M J i a s G H E I q st p;subst L hw M;obtain⟨U,st⟩:=st;obtain⟨F,f1,f2,D,C,B⟩:=q it aB;have m:x.cps[i]?=nO:=by have:zK2:=p;simp;exact this
  show hZ f z
  ·subst z;exact wpAny_pyNext_ascii_end (mN J) st m λl N=>⟨rfl,I.turned (t':=s.toks) (yK j N) F f1 D C B⟩
  ·subst z;exact wpAny_pyNext_wide_end (mN J) st m λl N=>⟨rfl,I.turned (t':=s.toks) (yK j N) F f1 D C B⟩
 self:=λ_ _ _ _ _ st h=>by
  show hZ f z
  ·subst z;exact wpAny_pyIter_striter_ascii st.2 h
  ·subst z;exact wpAny_pyIter_striter_wide st.2 h
theorem QnI:IterR X tg (λx H C=>∃y,x=c4 y/\C (Its y) H):=by
 intro c a g l x v C I1 h i;obtain⟨y,rfl,q⟩:=i;show aN t h
 have fin:∀ty,(ju4\/ty="str_iterator")->PIE X c g tg C (.ref a.heap.objs.size) { a with heap:=a.heap.push { cls:=.type ty,data:=.fields #[.str y t,qY] } }:=λty d=>by
  refine⟨a.heap.objs.size,Tn a,_,_,l,rfl,I1.kept (t':=a.toks) rY,QhW _ y ty t d,⟨NS _,_,dF,rfl,rfl⟩,bG b j,q⟩;have e:b=a.heap.objs.size:=cN j
  subst e;exact I1.fpOk c8 (I1.hok.fresh c8)
 cases f:y.cps.all (·<128)
 ·exact wpAny_pyIter_wide f (fin _ vF)
 ·exact wpAny_pyIter_ascii f (fin _ fA)
#print "-"
noncomputable def K9(h:MH):W->Option (aI×sV)
 |fD=>sO (ws,nO)
 |eV=>sO (ws,nO)
 |nK=>sO (ws,nO)
 |c4 x=>sO (Qbf x,nO)
 |aF n=>match h[n]? with|some i8=>sO (ws,sO (.l n))|_=>nO
 |_=>nO
noncomputable def Zb(m:ME):MI:=λa h=>(m a h).bind λp=>(K9 p.2 p.1).map λq=>(q.1,q.2,p.2)
section
variable{K:Ng}{R:Rn}
theorem Qat(d:Tx)(r:iF):ItOk K R (Itl K a) ws nO where
 go:=λi w j h H x c _ e=>by
  obtain⟨v,g,_⟩:=r.get e;exact⟨xs,v,Jb (kX c x) d,g⟩
 yld:=λi w j h H x s e c _ q l=>by
  show tF m l;show iJ v g p r q;have:=m xs (Jb (kX c e) d);show lX g;exact⟨j,qK,c,sU e p⟩
 stop:=λi j h H x c _ n=>⟨xs,Jb (kX c x) d,nW r n⟩
theorem Qha(d:zH2)(r:iF):ItOk K R (Itt K a) ws nO where
 go:=λi w j h H x c _ e=>by
  obtain⟨v,g,_⟩:=r.get e;exact⟨xs,v,Jx (kX c x) d,g⟩
 yld:=λi w j h H x s e c _ q l=>by
  show tF m l;show iJ v g p r q;have:=m xs (Jx (kX c e) d);show lX g;exact⟨j,qK,c,sU e p⟩
 stop:=λi j h H x c _ n=>⟨xs,Jx (kX c x) d,nW r n⟩
theorem Qid(g:n<R.N):ItOk K R (Itl K iA) ws (sO (.l n)) where
 go:=λi w o h H x b d e=>by
  show zp1;obtain⟨v,m,_⟩:=f.get e;rw[x.ρ n g]at a;exact⟨c,v,p6 a,m⟩
 yld:=λi w o h H x t e b d s p=>by
  show tF q p;show zp1;show iJ v m r f s;rw[e.ρ n g]at a;have:=q c (SqL.of a);show lX m;exact⟨o,qK,b,r⟩
 stop:=λi o h H x b d j=>by
  show zp1;rw[x.ρ n g]at a;exact⟨c,p6 a,nW f j⟩
theorem Qhi:ItOk K R (Its x) (Qbf x) nO where
 go:=λi w b h H _ _ _ e=>by
  have:=bX e;show i<x.cps.size;simpa[Qbf]using this
 yld:=λi w b h H v l e d _ a f=>by
  obtain⟨rfl,c,j,rfl⟩:=f;unfold Qbf at a;rw[Nq,N1,j]at a;cases a;exact⟨b,qK,d,Rw.str _⟩
 stop:=λi b h H _ _ _ g=>by
  show zK2;simpa[Qbf]using g
theorem UQ{lo:Int}:ItOk K R (Itr lo n) ((List.range n).map λ wL=>W.int (lo+fQ)) nO where
 go:=λi w b h H _ _ _ e=>by
  have:=bX e;show i<n;show j8
 yld:=λi w b h H v m e d _ c f=>by
  show sB f;rw[Nq]at c;show hV j a l c;rw[Dr (by have:=bX a;show j8)]at a;show kR a l;exact⟨b,qK,d,Rw.int _⟩
 stop:=λi b h H _ _ _ g=>by
  show n<=i;show kQ g
#print "-"
section
variable{X:Cx}{tg a b c:Expr}{ma:ME}{ms:MA}{pos p:Pos}
theorem Z9(O:qQ):PMI X tg a (Zb ma):=by
 intro i s D H C I q;obtain⟨R,t,h,items,E,h',G,st,e,k⟩:=q;show dD w Q Y U e;show pB M Z g T U;refine thn (O i s D H _ I ⟨R,t,h,w,Q,G,st,Y,qO l v m d⟩) λv F ⟨x,l,I1,J,L⟩=>((it_list.or QmB).or QnI) i F D l x v C I1 J L;cases w with
 |tup z=>
  cases g;obtain⟨ad,u,rfl,B,P⟩:=d.tupAt rv;unfold Rw at rv;obtain⟨r,f,S,j,o⟩:=rv;cases S;exact .inl (.inr ⟨_,rfl,fF u B,k R1 l _ m d (Qha j o)⟩)
 |lst z=>
  show zZ9;exact .inl (.inl ⟨_,rfl,⟨f,SqL.of (d.sub _ _ j)⟩,k R1 l _ m d (Qat (SqL.of j) o)⟩)
 |frz z=>
  show zZ9;exact .inl (.inl ⟨_,rfl,⟨f,Jb d.sub j⟩,k R1 l _ m d (Qat j o)⟩)
 |str y=>
  cases g;rw[rv.str_eq];exact .inr ⟨y,rfl,k R1 l _ m d Qhi⟩
 |ref n=>
  simp only[K9]at g;split at g
  ·show lE z N g;obtain⟨A,rfl,u,B,P⟩:=d.refAt rv N;exact .inl (.inl ⟨_,rfl,⟨u,p6 B⟩,k R1 l _ m d (Qid A)⟩)
  ·cases g
 |_=>cases g
noncomputable def QL(lo:Int)(n:Nat):aI:=(List.range n).map λ wL=>W.int (lo+fQ)
noncomputable def YG(ms:MA):MI:=λd h=>(ms d h).bind λp=>match p.1 with
 |[aC j]=>if wD<=j/\j<2^62 then sO (QL 0 j.toNat,nO,p.2)else nO
 |_=>nO
noncomputable def Qhk(ms:MA):MI:=λd h=>(ms d h).bind λp=>match p.1 with
 |[aC i,aC j]=>if wD<=i/\i<2^62/\wD<=j/\j<2^62 then sO (QL i (j-i).toNat,nO,p.2)else nO
 |_=>nO
theorem KO(y:Bl)(x:B0)(z:Z')(w:pK a=[fM a]:=by rfl):PMI X tg (.Call AN [a] [] pos) (YG ms):=
 UN (Qed y x z w) λE H C n=>by
  obtain⟨R,f,h,items,s,G,t,st,e,k⟩:=n;show dD q A B d e;refine⟨R,f,h,q,A,t,st,B,qO D F o g⟩;split at d
  ·rename_i j l;show yP l;split at d
   ·show g6 m d;show zr4 r u i;show iD i;rw[u.int_eq];exact⟨j,rfl,m.1,m.2,k R1 D _ o g UQ⟩
   ·cases d
  ·cases d
theorem QiU(D:Bl)(B:B0)(F:PMA X [a,b] ms)(A:TN a b=[fM a,fM b]:=by rfl)(l:pK b=[fM b]:=by rfl):PMI X tg (.Call AN [a,b] [] pos) (Qhk ms):=
 UN (Qf3 D B F A l) λL H C q=>by
  obtain⟨R,f,h,items,w,O,x,st,e,k⟩:=q;show dD s G I d e;refine⟨R,f,h,s,G,x,st,I,qO J M r g⟩;split at d
  ·rename_i i j o;show yP o;split at d
   ·show g6 E d;show zr4 u z n;show i3 n N t y m;show iD m;rw[z.int_eq,y.int_eq];exact⟨i,j,rfl,E,k R1 J _ r g UQ⟩
   ·cases d
  ·cases d
#print "-"
noncomputable def Qjl(cp:lT)(σ:MSt):MSt:=zO2
theorem Rst.cap{K:Ng}(s:iP R b σ)(cp:lT):Rst K R (Qjl cp b) (QaW cp σ):=by
 unfold Qjl QaW;refine⟨aP,aM i w e⟩;rw[Nq]at e ⊢;show hV o g a e;rw[g];cases o with
 |none=>cases a
 |some j=>
  simp only at a;split at a
  ·rename_i u c;subst a;obtain⟨v,f,d⟩:=s.2 j w c;exact⟨v,hY f,d⟩
  ·cases a
open Classical in
noncomputable def V6(fin:aI->MH->bF)(items:aI)(src:sV)(b:MG)(mt:MT)(me:ME):aI->aI->MSt->MH->bF
 |[],a,_,h=>if pJ then fin a h else nO
 | w::r,a,d,h=>if pJ then(b w d h).bind λc=>(mt c h).bind λq=>match q.1 with
   |true=>(me c q.2).bind λv=>if SD then V6 fin items src b mt me r (a++[v.1]) c v.2 else nO
   |false=>V6 fin items src b mt me r a c q.2
  else nO
noncomputable def Z4(fin:aI->MH->bF)(mi:MI)(cp:lT)(b:MG)(mt:MT)(me:ME):ME:=λa h=>(mi a h).bind λp=>V6 fin p.1 p.2.1 b mt me p.1 [] (Qjl cp a) p.2.2
noncomputable def YF:MT:=λ_ h=>Md
noncomputable def V8(a:aI)(h:MH):bF:=sO (jG a,h)
noncomputable def QoQ(a:aI)(h:MH):bF:=sO (eX,h++[jG a])
def QdH(K:Ng)(fin:aI->MH->bF):Prop:=∀R h H b a w d D,eG->Rws K R b a->fin b h=d7 w d->H D=nO->∃c,kT c/\Rh K c d (upd H D nF)/\Rw K c w (aD D)
theorem J6{K:Ng}:QdH K V8:=λR h H d a w f D b r e c=>by
 cases e;exact b.lstI c r
theorem QjQ{K:Ng}:QdH K QoQ:=λR h H f a w g D c r e d=>by
 cases e;exact c.new d λi b=>⟨a,rfl,Mp b r⟩
section
variable{X:Cx}{elt tg iter c:Expr}{scope:Scope}{pos:Pos}{cl:yA}{Nb:aO}{cp:lT}{mi:MI}{b:MG}{mt:MT}{me:ME}{fin:aI->MH->bF}
theorem QbK{K:Ng}(hf:QdH K fin)(q:tI K jr3 σ H Q):QhI (tII K mi) cp (tIG K b) (tIT K mt) (tI K me) σ H Q:=by
 obtain⟨R,B,h,w,h',rh,s,e,k⟩:=q;obtain⟨⟨items,E,h1⟩,e1,e2⟩:=dH e;refine⟨R,B,h,items,E,h1,rh,s,e1,λR1 H1 J x1 Y it=>?_⟩;refine⟨λi n z τ H=>i+n=items.length/\∃R2 g o a,zi5/\Rh K R2 o H/\iP R2 g τ/\Rws K R2 a z/\V6 fin items E b mt me (items.drop i) a g o=d7 w h'/\vO R2 h',⟨items.length,aP,R1,Qjl cp B,h1,[],qK,Y,(s.mono x1).cap cp,Rws.nil,cN e2,k.ext x1⟩,?_⟩
 rintro i n z τ S ⟨ae,R2,g,o,a,C,m,s2,M,f,Z⟩
 by_cases G:i<items.length
 ·obtain⟨y,N⟩:∃y,t9=sO y:=⟨items[i],Nj G⟩
  have hd:ZB=y::items.drop (i+1):=by
   rw[EY G];rw[Nj G]at N;cases N;rfl
  rw[hd]at f;show uZ V6 f
  ·rename_i O;show dJ d e4 e5 f;show dD t h3 e6 e7 e5;refine .inr ⟨it.go i y R2 o S C m O N,λx H' aa=>?_⟩;obtain⟨R3,l,r,p⟩:=it.yld i y R2 o S x H' C m O N aa;refine⟨R3,g,o,y,d,r,s2.mono l,p,e4,λR4 H4 ab A U L=>?_⟩;refine⟨R4,d,o,t,h3,U,L,e6,eE R5 H5 j F⟩;cases t with
   |true=>
    show dD v h4 e8 P e7;show rS P
    ·rename_i hz;refine Qj8 ⟨R5,d,h3,v,h4,F,L.mono j,e8,λR6 H6 u I T rv=>⟨by show u3 M;exact hz,n-1,aQ,aQ,R6,d,h4,a++[v],C.trans (l.trans (iG A j I)),T,L.mono (dX j I),?_,P,Z.ext (l.trans (iG A j I))⟩⟩;exact Rws.append (Rws.mono (l.trans (iG A j I)) _ _ M) (Rws.cons rv Rws.nil)
    ·cases P
   |false=>
    exact QlG ⟨n-1,aQ,aQ,R5,d,h3,a,C.trans (iG l A j),F,L.mono j,Rws.mono (iG l A j) _ _ M,e7,Z.ext (iG l A j)⟩
  ·cases f
 ·have hd:ZB=[]:=Du (hP G);rw[hd]at f;show uZ V6 f
  ·rename_i O;refine .inl ⟨it.stop i R2 o S C m O (hP G),λD hD=>?_⟩;obtain⟨R3,l,r,p⟩:=hf R2 o S a z w h' D m M f hD;exact Z R3 _ _ l r p
  ·cases f
theorem Xo(r:QdH X.K fin)(v:fH)(B:uD)(o:SZ)(p:∀a d C i f,PMG (k9 a d i f) tg b)
  (u:∀a d C i f,PM (k9 a d i f) elt me) (n:u5:=by intro _;rfl) :
  PM X zm6 jr4:=
 ZH (Qft (g:=tIG X.K b) (te:=tI X.K me) (tt:=tIT X.K YF) v B o p (λa d C i f j s w H Q I q=>wpAny_tests_nil (by
  obtain⟨R,l,h,t,A,m,st,e,k⟩:=q;cases e
  exact⟨H,I,k R H bV m⟩)) u n) λ_ _ _ q=>QbK r q
theorem Yb(o:QdH X.K fin)(r:fH)(B:uD)(m:SZ)(n:∀a d C f e,PMG (k9 a d f e) tg b)
  (j:∀a d C f e,PMT (k9 a d f e) c mt)
  (p:∀a d C f e,PM (k9 a d f e) elt me) (l:u5:=by intro _;rfl) :
  PM X (.ListComp elt [⟨tg,iter,[c],0⟩] scope pos) jr3:=
 ZH (Qft (g:=tIG X.K b) (te:=tI X.K me) (tt:=tIT X.K mt) r B m n (λa d C f e h s i H Q I q=>wpAny_tests_one (j a d C f e h s i H Q I q)) p l) λ_ _ _ q=>QbK o q
#print "-"
open PySem.SeqAt
mutual
noncomputable def eqW:W->tP
 |.non,.non=>true
 |.bl a,.bl b=>a==b
 |.bl a,aC b=>(A' a)==b
 |aC a,.bl b=>a==(A' b)
 |aC a,aC b=>a==b
 |c4 a,c4 b=>a==b
 |.tup a,.tup b=>UT a b
 |jG a,jG b=>UT a b
 |_,_=>false
noncomputable def UT:aI->aI->Bool
 |[],[]=>true
 |x::xs,y::ys=>eqW x y&&UT xs ys
 |_,_=>false
end
noncomputable def Z8(f:b->j2 a):cE b->HV a
 |[]=>sO []
 |x::xs=>(f x).bind λy=>(Z8 f xs).map (y::·)
noncomputable def drf(h:MH):Nat->W->bY
 |0,_=>nO
 |n+1,w=>match w with
  |fD=>(Z8 h9 ws).map .tup
  |eV=>(Z8 h9 ws).map .lst
  |nK=>(Z8 h9 ws).map .lst
  |aF k=>match h[k]? with|some i8=>(Z8 h9 ws).map .lst|_=>nO
  |.ty _=>nO
  |.non=>sO .non
  |.bl b=>sO lF
  |aC i=>sO cT
  |c4 x=>sO iX
theorem Ze:∀{xs:cE p} {ys:cE o},Z8 f xs=sO ys->xs.length=ys.length/\∀(i:Nat) x,xs[i]?=sO x->∃y,ys[i]?=sO y/\f x=sO y:=by
 intro xs
 induction xs with
 |nil=>
  intro ys e;cases e;exact⟨rfl,λi x h=>gL h⟩
 |cons x xs b=>
  intro ys e;show dJ y n m e;show hV r j g m;subst g;obtain⟨l,q⟩:=b j;refine⟨hY l,aM i z a⟩;cases i with
  |zero=>show hX a;exact⟨y,aP,n⟩
  |succ i=>simp at a;obtain⟨u,d,c⟩:=q i z a;exact⟨u,hY d,c⟩
theorem K3:∀{a b:aI},a.length≠b.length->UT a b=false
 |[],[],h=>MM h
 |[],_::_,_=>S'
 |_::_,[],_=>S'
 |x::xs,y::ys,h=>by
  unfold UT;rw[K3 (a:=xs) (b:=ys) (λz=>h (eC z)),Ip]
theorem K5:∀{a b:aI},a.length=b.length->UT a b=(List.range a.length).all λj=>match a[j]?,b[j]? with|dY x,sO y=>eqW x y|_,_=>false
 |[],[],_=>S'
 |x::xs,y::ys,h=>by
  have c:=K5 (a:=xs) (b:=ys) (bZ h);unfold UT;rw[c,NQ,List.range_succ_eq_map,Yao,List.all_map];simp[DC]
inductive Kd(K:Ng)(R:Rn)(h:MH)(H:Hp)(n:Nat)(v:V):W->Prop where
 |flat {a:W} (f:QjV v=true) (e:(v=.non/\a=.non)\/(∃b,v=.bl b/\a=.bl b)\/(∃i,v=aC i/\a=aC i)\/∃x,v=c4 x/\a=c4 x):Kd K R h H n v a
 |lst {ad:Addr} {xs:bA} {ws as:aI} (e:v=.ref ad) (q:SqL K H ad xs) (r:iF) (m:Z8 h9 ws=sO as):Kd K R h H n v (.lst as)
 |tup {ad:Addr} {xs:bA} {ws as:aI} (e:v=.ref ad) (q:SqT K H ad xs) (r:iF) (m:Z8 h9 ws=sO as):Kd K R h H n v (.tup as)
theorem KI{K:Ng}{v:V}(g:eG)(r:fI)(e:drf h (n+1) w=sO a):Kd K R h H n v a:=by
 cases w with
 |non=>rw[r.non_eq];cases e;exact .flat rfl (.inl gD)
 |bl b=>rw[r.bl_eq];cases e;exact .flat rfl (.inr (.inl (zi6 b)))
 |int i=>rw[r.int_eq];cases e;exact .flat rfl (.inr (.inr (.inl (zi6 i))))
 |str x=>rw[r.str_eq];cases e;exact .flat rfl (.inr (.inr (.inr (zi6 x))))
 |tup l=>
  obtain⟨ad,j,f,q,c⟩:=g.tupAt r;show u9 d;exact .tup f q c m
 |lst l=>
  obtain⟨ad,j,f,q,c⟩:=g.lstAt r;show u9 d;exact .lst f (SqL.of q) c m
 |frz l=>
  obtain⟨ad,j,f,q,c⟩:=g.frzAt r;show u9 d;exact .lst f q c m
 |ref k=>
  simp only[drf]at e;split at e
  ·rename_i l o;show u9 d;obtain⟨_,f,j,q,c⟩:=g.refAt r o;exact .lst f (SqL.of q) c m
  ·cases e
 |ty _=>cases e
section
variable{X:Cx}{pins:bT}{σ:L2.St}{H:Hp}{s:Shared}{R:Rn}{h:MH}
theorem Ua{K:Ng}(p:∀w1 w2 v a b,mO R w1->mO R w2->pL->pM->a=b) :
  ∀{d c:aI} {xs:bA} {a b:aI},Rws K R d xs->Rws K R c xs->Z8 h9 d=sO a->Z8 h9 c=sO b->a=b
 |[],c,xs,a,b,f,e,i,g=>by
  show iD f;cases c with
  |nil=>show kR i g;rfl
  |cons w ws=>show z8 e;obtain⟨_,_,z,_⟩:=e;cases z
 | w::d,c,xs,a,b,f,e,i,g=>by
  show i3 f v t C B;cases c with
  |nil=>show MV e;cases e
  |cons u c=>
   show z8 e;obtain⟨_,_,z,A,x⟩:=e;cases z;show dJ y G F i;show hV I E D F;show dJ r o m g;show hV q l j m;subst D j;rw[p w u v y r C A G o,Ua p B x E l]
theorem YJ(I:bW)(q:Tt)(e:yU a):False:=by
 obtain⟨g,_,p,_⟩:=f0 q;obtain⟨d,_,f,_⟩:=eR e;obtain⟨o,n,j,i,_⟩:=p;obtain⟨l,c,b,_⟩:=f;show bK j c;rw[i]at b;exact absurd b aB
theorem Wl(I:bW)(g:kG):∀(n:Nat) (w1 w2:W) (v:V) (a b:W),fC w1 v->fC w2 v->pL->pM->a=b
 |0,_,_,_,_,_,_,_,e,_=>jC e
 | n+1,w1,w2,v,a,b,w,j,x,p=>by
  have t:=Wl I g n;cases KI g w x with
  | flat f z=>
   cases KI g j p with
   |flat y u=>
    rcases z with⟨rfl,rfl⟩|⟨_,rfl,rfl⟩|⟨_,rfl,rfl⟩|⟨_,rfl,rfl⟩<;>rcases u with⟨i,rfl⟩|⟨_,i,rfl⟩|⟨_,i,rfl⟩|⟨_,i,rfl⟩<;>cases i<;>rfl
   |lst e=>show p8 e f
   |tup e=>show p8 e f
  |lst e q r m=>
   subst e;cases KI g j p with
   |flat f=>cases f
   |lst d c l o=>cases d;have:=I.list_inj q c;subst this;rw[Ua t r l m o]
   |tup d c=>cases d;exact(YJ I q c).elim
  |tup e q r m=>
   subst e;cases KI g j p with
   |flat f=>cases f
   |lst d c=>cases d;exact(YJ I c q).elim
   |tup d c l o=>cases d;have:=I.tuple_inj q c;subst this;rw[Ua t r l m o]
mutual
theorem G0:∀(n:Nat) (w a:W),drf h n w=sO a->eqW a a=true
 |0,_,_,e=>jC e
 | n+1,w,a,e=>by
  cases w with
  |non=>show eO e;rfl
  |bl b=>show eO e;simp
  |int i=>show eO e;simp
  |str x=>show eO e;simp
  |tup ws=>show u9 c;show S3
  |lst ws=>show u9 c;show S3
  |frz ws=>show u9 c;show S3
  |ref k=>
   simp only[drf]at e;split at e
   ·rename_i ws d;show u9 c;show S3
   ·cases e
  |ty _=>cases e
theorem Kn:∀(n:Nat) (ws as:aI),Z8 h9 ws=sO as->UT as as=true
 |n,[],_,m=>by cases m;unfold UT;rfl
 |n,w::ws,_,m=>by
  show dJ y h1 h2 m;show hV a c b h2;subst b;unfold UT;rw[G0 n w y h1,Kn n ws a c];rfl
end
theorem Ky(G:∀w1 w2 v1 f m l a b,fC w1 v1->fC w2 f->fV v1 m->fV f l->pL->pM->EqAt A s m l Mv)
  (p:M4 e) (o:M5 d) (v1:q9) (f:Vals ys c) (B:Z8 h9 e=sO as) (z:Z8 h9 d=sO bs)
  (j:Nat) (h1:j<its.toArray.size) (h2:j<c.toArray.size):EqAt A s its.toArray[j] c.toArray[j] (match as[j]?,bs[j]? with|dY x,sO y=>eqW x y|_,_=>false):=by
 show cP F p;show cP E v1;show cP D o;show cP C f;rw[Nr]at h1 h2;obtain⟨w1,i⟩:∃w,e[j]?=sO w:=⟨e[j]'(Ni (Ni h1 (cL E)) (cL F)),Nj _⟩
 obtain⟨w2,g⟩:∃w,d[j]?=sO w:=⟨d[j]'(Ni (Ni h2 (cL C)) (cL D)),Nj _⟩
 show iJ x I r p i;show iJ y H q o g;show iJ u J v v1 I;obtain⟨t,L,rt⟩:=f.get H;obtain⟨a,N,P⟩:=(Ze B).2 j w1 i;obtain⟨b,M,O⟩:=(Ze z).2 j w2 g;rw[N,M]
 have S:its.toArray[j]=u:=by
  have:=J;rw[Nj h1]at this;show j8
 have Q:c.toArray[j]=t:=by
  have:=L;rw[Nj h2]at this;show j8
 rw[S,Q];exact G w1 w2 x y u t a b r q v rt P O
theorem Qc2(I:cI o σ)(v:uW)(B:∀w1 w2 v1 c i g a b,fC w1 v1->fC w2 c->fV v1 i->fV c g->pL->pM->Sd i g)
  {ad x:Addr} (z:SqL X.K H ad xs) (y:Bp x) (m:M4 e) (l:M5 d) (t:Z8 h9 e=sO as) (r:Z8 h9 d=sO bs):RcAt A s zh2 (aD x) (UT as bs):=by
 obtain⟨f,v1,q,_⟩:=f0 z;obtain⟨u,c,p,_⟩:=f0 y;show cP M m;show cP L v1;show cP J l;show cP G c;have F:=p7 t;have E:=p7 r
 by_cases w:zx7
 ·rw[K5 w];have:=RcAt.lists (A:=A) q.isList p.isList (by rw[Nr,Nr];lia) v (λj D C=>Ky B m l v1 c t r j D C);show zU9
 ·rw[K3 w];exact RcAt.lists_lengths q.isList p.isList jn7 v
theorem QgG(I:cI q σ)(B:uW)(z:∀w1 w2 v1 e m l a b,fC w1 v1->fC w2 e->fV v1 m->fV e l->pL->pM->Sd m l)
  {ad i:Addr} (w:SqT X.K H ad xs) (v:yU i) (p:M4 g) (o:M5 f) (t:Z8 h9 g=sO as) (r:Z8 h9 f=sO bs):RcAt A s zh2 (aD i) (UT as bs):=by
 obtain⟨d,v1,y,_⟩:=eR w;obtain⟨c,e,x,_⟩:=eR v;show cP M p;show cP L v1;show cP J o;show cP G e;have F:=p7 t;have E:=p7 r;have:=RcAt.tuples (A:=A) (PU d y) (CG s i c x) B (λj D C=>Ky z p o v1 e t r j D C);show zM3 u
 show zQ3 u
theorem Qct(I:cI U σ)(l:kG):∀(n:Nat) (A:Around),Hk->∀(w1 w2:W) (v1 G:V) (L J:Value) (a b:W),fC w1 v1->fC w2 G->fV v1 L->fV G J->pL->pM->EqAt A s L J Mv
 |0,_,_,_,_,_,_,_,_,_,_,_,_,_,_,e,_=>jC e
 | n+1,A,Z,w1,w2,v1,G,L,J,a,b,M,D,i,g,T,w=>by
  have c:uW:=by exact Np cJ Z
  have Y:=Qct I l n A.in1 (by show mG+n<cLine;lia)
  have v:∀{ad:Addr} {F:bA},SqL X.K H ad F->∃d:eN,zH4 d:=λq=>by
   obtain⟨d,_,p,_⟩:=f0 q;exact zG6
  have u:∀{ad:Addr} {F:bA},SqT X.K H ad F->∃d:eN,zE8 d:=λq=>by
   obtain⟨d,_,p,_⟩:=eR q;show u0 p
  cases KI l M T with
  | flat f z=>
   cases KI l D w with
   |flat S C=>
    have:=Qnx (A:=A) (s:=s) i g f S
    rcases z with⟨rfl,rfl⟩|⟨_,rfl,rfl⟩|⟨_,rfl,rfl⟩|⟨_,rfl,rfl⟩<;>rcases C with⟨rfl,rfl⟩|⟨_,rfl,rfl⟩|⟨_,rfl,rfl⟩|⟨_,rfl,rfl⟩<;>(unfold eqW;exact this)
   |lst e q=>
    show iU e g d p v q
    show mP z
    ·show eO i;exact EqAt.none_list p c
    ·show eO i;exact EqAt.bool_list _ p c
    ·show aN t i;unfold eqW;exact EqAt.int_list _ t p c
    ·show aN t i;unfold eqW;exact EqAt.str_list _ t p c
   |tup e q=>
    show iU e g d p u q
    show mP z
    ·show eO i;exact EqAt.none_tuple p c
    ·show eO i;exact EqAt.bool_tuple _ p c
    ·show aN t i;unfold eqW;exact EqAt.int_tuple _ t p c
    ·show aN t i;unfold eqW;exact EqAt.str_tuple _ t p c
  | @lst B _ _ _ e q r m=>
   show iU e i d p v q;have Q:=KI l D w;cases Q with
   |flat S C=>
    show mP C
    ·show eO g;exact EqAt.list_none p c
    ·show eO g;exact EqAt.list_bool _ p c
    ·show aN t g;unfold eqW;exact EqAt.list_int _ t p c
    ·show aN t g;unfold eqW;exact EqAt.list_str _ t p c
   |@lst y _ _ _ x o N P=>
    show p8 x g
    by_cases j:B=y
    ·subst j;have:=Wl I l (n+1) w1 w2 _ _ _ M D T w;show jj6
    ·unfold eqW;exact EqAt.of_refs j (Qc2 I c Y q o r N m P)
   |tup x o=>
    show iU x g E O u o;unfold eqW;exact EqAt.list_tuple p O c
  | @tup B _ _ _ e q r m=>
   show iU e i d p u q;have Q:=KI l D w;cases Q with
   |flat S C=>
    show mP C
    ·show eO g;exact EqAt.tuple_none p c
    ·show eO g;exact EqAt.tuple_bool _ p c
    ·show aN t g;unfold eqW;exact EqAt.tuple_int _ t p c
    ·show aN t g;unfold eqW;exact EqAt.tuple_str _ t p c
   |lst x o=>
    show iU x g E O v o;unfold eqW;exact EqAt.tuple_list p O c
   |@tup y _ _ _ x o N P=>
    show p8 x g
    by_cases j:B=y
    ·subst j;have:=Wl I l (n+1) w1 w2 _ _ _ M D T w;show jj6
    ·unfold eqW;exact EqAt.of_refs j (QgG I c Y q o r N m P)
#print "-"
#print "-Mi"
namespace Mi
open L2 PySem.SeqAt
section
variable{X:Cx}{pins:bT}{σ:L2.St}{H:Hp}{s:Shared}{R:Rn}{h:MH}
theorem Qc9(I:bW)(u:uW)(z:∀w1 w2 v1 c i g a b,fC w1 v1->fC w2 c->fV v1 i->fV c g->pL->pM->Sd i g)
  {ad w:Addr} (y:SqL X.K H ad xs) (x:Bp w) (m:M4 e) (l:M5 d) (r:Z8 h9 e=sO as) (q:Z8 h9 d=sO bs):RcNeAt A s zh2 (aD w) (!UT as bs):=by
 obtain⟨f,v1,p,_⟩:=f0 y;obtain⟨t,c,o,_⟩:=f0 x;show cP L m;show cP J v1;show cP G l;show cP F c;have E:=p7 r;have D:=p7 q
 by_cases v:zx7
 ·rw[K5 v];have:=RcNeAt.lists (A:=A) p.isList o.isList (by rw[Nr,Nr];lia) u (λj C B=>Ky z m l v1 c r q j C B);show zU9
 ·rw[K3 v];exact RcNeAt.lists_lengths p.isList o.isList jn7 u
theorem Qfq(I:bW)(z:uW)(y:∀w1 w2 v1 e m l a b,fC w1 v1->fC w2 e->fV v1 m->fV e l->pL->pM->Sd m l)
  {ad i:Addr} (v:SqT X.K H ad xs) (u:yU i) (p:M4 g) (o:M5 f) (r:Z8 h9 g=sO as) (q:Z8 h9 f=sO bs):RcNeAt A s zh2 (aD i) (!UT as bs):=by
 obtain⟨d,v1,x,_⟩:=eR v;obtain⟨c,e,w,_⟩:=eR u;show cP L p;show cP J v1;show cP G o;show cP F e;have E:=p7 r;have D:=p7 q;have:=RcNeAt.tuples (A:=A) (PU d x) (CG s i c w) z (λj C B=>Ky y p o v1 e r q j C B);show zM3 t
 show zQ3 t
theorem Qmu(I:bW)(x:kG)(n:Nat)(A:Around)(Y:Hk)(w1 w2:W)(v1 M:V)(O N:Value)(a b:W)(U:fC w1 v1)(C:fC w2 M)(j:fV v1 O)(c:fV M N)(S:pL)(J:pM):RcAt A s O N Mv:=by
 cases n with
 |zero=>cases S
 | succ n=>
  have d:uW:=by exact Np cJ Y
  have P:=Qct I x n A.in1 (by show mG+n<cLine;lia)
  have u:∀{ad:Addr} {B:bA},SqL X.K H ad B->∃i:eN,zH4 i:=λq=>by
   obtain⟨i,_,p,_⟩:=f0 q;exact zG6
  have o:∀{ad:Addr} {B:bA},SqT X.K H ad B->∃i:eN,zE8 i:=λq=>by
   obtain⟨i,_,p,_⟩:=eR q;show u0 p
  cases KI x U S with
  | flat f z=>
   cases BY with
   | flat Q w=>
    rcases z with⟨rfl,rfl⟩|⟨_,rfl,rfl⟩|⟨_,rfl,rfl⟩|⟨_,rfl,rfl⟩<;>rcases w with⟨rfl,rfl⟩|⟨_,rfl,rfl⟩|⟨_,rfl,rfl⟩|⟨_,rfl,rfl⟩<;>first|(show aN T j)|cases j
    ·first|(show aN g c)|cases c
     unfold eqW;exact RcAt.none_none
    ·first|(show aN g c)|cases c
     unfold eqW;exact RcAt.none_bool _
    ·first|(show aN g c)|cases c
     unfold eqW;exact RcAt.none_int _ _
    ·first|(show aN g c)|cases c
     unfold eqW;exact RcAt.none_str _ _
    ·first|(show aN g c)|cases c
     unfold eqW;exact RcAt.bool_none _
    ·first|(show aN g c)|cases c
     unfold eqW;exact RcAt.bool_bool _ _
    ·first|(show aN g c)|cases c
     unfold eqW;exact RcAt.bool_int _ _ _
    ·first|(show aN g c)|cases c
     unfold eqW;exact RcAt.bool_str _ _ _
    ·first|(show aN g c)|cases c
     unfold eqW;exact RcAt.int_none _ _
    ·first|(show aN g c)|cases c
     unfold eqW;exact RcAt.int_bool _ _ _
    ·first|(show aN g c)|cases c
     unfold eqW;exact RcAt.int_int _ _ _ _
    ·first|(show aN g c)|cases c
     unfold eqW;exact RcAt.int_str _ _ _ _
    ·first|(show aN g c)|cases c
     unfold eqW;exact RcAt.str_none _ _
    ·first|(show aN g c)|cases c
     unfold eqW;exact RcAt.str_bool _ _ _
    ·first|(show aN g c)|cases c
     unfold eqW;exact RcAt.str_int _ _ _ _
    ·first|(show aN g c)|cases c
     unfold eqW;exact RcAt.str_str _ _ _ _
   |lst e q=>
    show iU e c i p u q
    show mP z
    ·show eO j;exact RcAt.none_list p d
    ·show eO j;exact RcAt.bool_list _ p d
    ·show aN t j;unfold eqW;exact RcAt.int_list _ t p d
    ·show aN t j;unfold eqW;exact RcAt.str_list _ t p d
   |tup e q=>
    show iU e c i p o q
    show mP z
    ·show eO j;exact RcAt.none_tuple p d
    ·show eO j;exact RcAt.bool_tuple _ p d
    ·show aN t j;unfold eqW;exact RcAt.int_tuple _ t p d
    ·show aN t j;unfold eqW;exact RcAt.str_tuple _ t p d
  | @lst L _ _ _ e q r m=>
   show iU e j i p u q;have G:=BY;cases G with
   |flat Q w=>
    show mP w
    ·show eO c;exact RcAt.list_none p d
    ·show eO c;exact RcAt.list_bool _ p d
    ·show aN t c;unfold eqW;exact RcAt.list_int _ t p d
    ·show aN t c;unfold eqW;exact RcAt.list_str _ t p d
   |tup v l=>
    show iU v c y E o l;unfold eqW;exact RcAt.list_tuple p E d
   |lst v l D F=>
    subst v;show eO c;exact Qc2 I d P q l r D m F
  | @tup L _ _ _ e q r m=>
   show iU e j i p o q;have G:=BY;cases G with
   |flat Q w=>
    show mP w
    ·show eO c;exact RcAt.tuple_none p d
    ·show eO c;exact RcAt.tuple_bool _ p d
    ·show aN t c;unfold eqW;exact RcAt.tuple_int _ t p d
    ·show aN t c;unfold eqW;exact RcAt.tuple_str _ t p d
   |lst v l=>
    show iU v c y E u l;unfold eqW;exact RcAt.tuple_list p E d
   |tup v l D F=>
    subst v;show eO c;exact QgG I d P q l r D m F
theorem Qhj(I:bW)(x:kG)(n:Nat)(A:Around)(Y:Hk)(w1 w2:W)(v1 M:V)(O N:Value)(a b:W)(U:fC w1 v1)(C:fC w2 M)(j:fV v1 O)(c:fV M N)(S:pL)(J:pM):RcNeAt A s O N (!eqW a b):=by
 cases n with
 |zero=>cases S
 | succ n=>
  have d:uW:=by exact Np cJ Y
  have P:=Qct I x n A.in1 (by show mG+n<cLine;omega)
  have u:∀{ad:Addr} {B:bA},SqL X.K H ad B->∃i:eN,zH4 i:=λq=>by
   obtain⟨i,_,p,_⟩:=f0 q;exact zG6
  have o:∀{ad:Addr} {B:bA},SqT X.K H ad B->∃i:eN,zE8 i:=λq=>by
   obtain⟨i,_,p,_⟩:=eR q;show u0 p
  cases KI x U S with
  | flat f z=>
   cases BY with
   | flat Q w=>
    rcases z with⟨rfl,rfl⟩|⟨_,rfl,rfl⟩|⟨_,rfl,rfl⟩|⟨_,rfl,rfl⟩<;>rcases w with⟨rfl,rfl⟩|⟨_,rfl,rfl⟩|⟨_,rfl,rfl⟩|⟨_,rfl,rfl⟩<;>first|(show aN T j)|cases j
    ·first|(show aN g c)|cases c
     unfold eqW;exact RcNeAt.none_none
    ·first|(show aN g c)|cases c
     unfold eqW;exact RcNeAt.none_bool _
    ·first|(show aN g c)|cases c
     unfold eqW;exact RcNeAt.none_int _ _
    ·first|(show aN g c)|cases c
     unfold eqW;exact RcNeAt.none_str _ _
    ·first|(show aN g c)|cases c
     unfold eqW;exact RcNeAt.bool_none _
    ·first|(show aN g c)|cases c
     unfold eqW;exact RcNeAt.bool_bool _ _
    ·first|(show aN g c)|cases c
     unfold eqW;exact RcNeAt.bool_int _ _ _
    ·first|(show aN g c)|cases c
     unfold eqW;exact RcNeAt.bool_str _ _ _
    ·first|(show aN g c)|cases c
     unfold eqW;exact RcNeAt.int_none _ _
    ·first|(show aN g c)|cases c
     unfold eqW;exact RcNeAt.int_bool _ _ _
    ·first|(show aN g c)|cases c
     unfold eqW;exact RcNeAt.int_int _ _ _ _
    ·first|(show aN g c)|cases c
     unfold eqW;exact RcNeAt.int_str _ _ _ _
    ·first|(show aN g c)|cases c
     unfold eqW;exact RcNeAt.str_none _ _
    ·first|(show aN g c)|cases c
     unfold eqW;exact RcNeAt.str_bool _ _ _
    ·first|(show aN g c)|cases c
     unfold eqW;exact RcNeAt.str_int _ _ _ _
    ·first|(show aN g c)|cases c
     unfold eqW;exact RcNeAt.str_str _ _ _ _
   |lst e q=>
    show iU e c i p u q
    show mP z
    ·show eO j;exact RcNeAt.none_list p d
    ·show eO j;exact RcNeAt.bool_list _ p d
    ·show aN t j;unfold eqW;exact RcNeAt.int_list _ t p d
    ·show aN t j;unfold eqW;exact RcNeAt.str_list _ t p d
   |tup e q=>
    show iU e c i p o q
    show mP z
    ·show eO j;exact RcNeAt.none_tuple p d
    ·show eO j;exact RcNeAt.bool_tuple _ p d
    ·show aN t j;unfold eqW;exact RcNeAt.int_tuple _ t p d
    ·show aN t j;unfold eqW;exact RcNeAt.str_tuple _ t p d
  | @lst L _ _ _ e q r m=>
   show iU e j i p u q;have G:=BY;cases G with
   |flat Q w=>
    show mP w
    ·show eO c;exact RcNeAt.list_none p d
    ·show eO c;exact RcNeAt.list_bool _ p d
    ·show aN t c;unfold eqW;exact RcNeAt.list_int _ t p d
    ·show aN t c;unfold eqW;exact RcNeAt.list_str _ t p d
   |tup v l=>
    show iU v c y E o l;unfold eqW;exact RcNeAt.list_tuple p E d
   |lst v l D F=>
    subst v;show eO c;exact Qc9 I d P q l r D m F
  | @tup L _ _ _ e q r m=>
   show iU e j i p o q;have G:=BY;cases G with
   |flat Q w=>
    show mP w
    ·show eO c;exact RcNeAt.tuple_none p d
    ·show eO c;exact RcNeAt.tuple_bool _ p d
    ·show aN t c;unfold eqW;exact RcNeAt.tuple_int _ t p d
    ·show aN t c;unfold eqW;exact RcNeAt.tuple_str _ t p d
   |lst v l=>
    show iU v c y E u l;unfold eqW;exact RcNeAt.tuple_list p E d
   |tup v l D F=>
    subst v;show eO c;exact Qfq I d P q l r D m F
#print "-"
noncomputable def wEq(a b:W)(h:MH):bF:=(drf h 40 a).bind λx=>(drf h 40 b).map λy=>(.bl (eqW x y),h)
noncomputable def wNe(a b:W)(h:MH):bF:=(drf h 40 a).bind λx=>(drf h 40 b).map λy=>(.bl (!eqW x y),h)
theorem Qk{K:Ng}:OpM K (F2 K f) f:=λ_ _ _ _ q=>q
section
variable{X:Cx}
theorem QP(l:gH):OpR X (compareOp .Eq) (F2 X.K wEq):=by
 intro d s z H x y v u Q I g f q;obtain⟨R,h,a,b,w,B,c,j,i,e,k⟩:=q;show dJ t p o e;show eD r n m o;exact Qmu I c 40 X.A (NT (El aE _) l) a b x y v u t r j i g f p n _ _ _ _ ⟨.bl _,H,I,rfl,k R H _ bV c i9⟩
theorem Qbe(l:gH):OpR X (compareOp .NotEq) (F2 X.K wNe):=by
 intro d s z H x y v u Q I g f q;obtain⟨R,h,a,b,w,B,c,j,i,e,k⟩:=q;show dJ t p o e;show eD r n m o;exact Qhj I c 40 X.A (NT (El aE _) l) a b x y v u t r j i g f p n _ _ _ _ ⟨.bl _,H,I,rfl,k R H _ bV c i9⟩
noncomputable def inW(x:W)(xs:aI):Bool:=xs.any λy=>eqW y x
noncomputable def wIn(neg:Bool)(a b:W)(h:MH):bF:=match b with
 |.tup d=>zN1
 |b=>(lsW h b).bind λd=>zN1
open Classical in
noncomputable def QdT(K:Ng)(R:Rn)(h:MH)(x:W)(u:Value):Bool:=decide (∃w v a,fI/\cU v/\drf h 40 w=sO a/\eqW a x=true)
open Classical in
theorem Qbq(I:cI c σ)(i:kG)(r:fC w v)(t:cU v)(e:drf h 40 w=sO a):QdT X.K R h x u=eqW a x:=by
 unfold QdT
 by_cases q:eqW a x=true
 ·rw[q];exact decide_eq_true ⟨w,v,a,r,t,e,q⟩
 ·have b:eqW a x=false:=cN q
  rw[b];refine decide_eq_false (k3 d);obtain⟨f,n,m,j,g,l,z⟩:=d;have:=t.inj g;subst this;rw[Wl I i 40 w f v a m r j e l,z]at b;cases b
theorem QbH(I:cI b σ)(a:kG):∀{ws as:aI} {xs:bA} {us:aX},Rws X.K R ws xs->iI->Z8 oE ws=sO as->us.any (QdT X.K R h x)=inW x as
 |[],_,_,_,r,t,m=>by
  show iD r;show kR t m;rfl
 | w::ws,_,_,_,r,t,m=>by
  show i3 r v d i g;cases t with
  |cons f e=>
   show dJ y o n m;show hV p l j n;subst j;have c:=QbH I a (x:=x) g e l;unfold inW at c ⊢;rw[D0,D0,Qbq I a i f o,c]
theorem Yq(I:cI g σ)(f:kG)(D:A.units+40<cLine)(p:fC a v)(o:cU v)(E:drf h 40 a=sO x) 
  (r:Rws X.K R ws xs) (t:iI) (m:Z8 oE ws=sO as):∀y∈us,EqAt A s y u (QdT X.K R h x y):=by
 intro y B;obtain⟨i,j,e⟩:=D6.mp B;show cP z r;show cP q t;obtain⟨w,hw⟩:∃w,ws[i]?=sO w:=⟨ws[i]'(Ni (Ni j (cL q)) (cL z)),Nj _⟩
 obtain⟨n,C,rv⟩:=r.get hw;show iJ F c d t C;rw[Nj j,e]at c;cases c;obtain⟨b,G,l⟩:=(Ze m).2 i w hw;rw[Qbq I f rv d l];exact Qct I f 40 A D w a n v y u b x rv p d o l E
theorem Qgw(Z:gH):OpR X T6 (F2 X.K IO):=by
 intro p s S H x y v u Q I N M q;obtain⟨R,h,a,b,w,L,l,P,O,e,k⟩:=q;have B:zu4:=by show yZ+40<cLine;lia
 have main:∀g,((drf h 40 a).bind λx=>(Z8 oE g).map λc=>((W.bl (if false then ! Cg else Cg),h):W×MH))=d7 w L->∃d c,Tg/\Z8 oE g=sO c/\w=.bl (inW d c)/\L=h:=λg e=>by
  show dJ d j U e;show eD c i T U;exact⟨d,c,j,i,rfl,rfl⟩
 have fin:∀{d:W} {c E:aI} {m:bA} {f:aX},Rws X.K R E m->Vals m f->Tg->Z8 oE E=sO c->w=.bl (inW d c)->L=h->EP X p S Q (.bool (f.toArray.any AY)) s:=λ{d c E m f} r t ea em C D=>by
  subst C D;rw[Ya2,QbH I l r t em];exact⟨.bl _,H,I,rfl,k R H _ bV l i9⟩
 unfold wIn at e;split at e
 ·rename_i g;obtain⟨d,c,j,i,C,D⟩:=main g e;show B5 m F o l O;cases M;obtain⟨f,n,G,_⟩:=eR F;exact in_tupleAt AY (PU f G) (λz J=>Yq I l B P N j o n i z (bZ J)) SA
 ·obtain⟨g,Y,e⟩:=dH e;obtain⟨d,c,j,i,C,D⟩:=main g e;show lW m F o l O Y;cases M;obtain⟨f,n,G,_⟩:=f0 F;exact in_listAt AY G.isList (λz J=>Yq I l B P N j o n i z (bZ J)) SA
theorem Ws(Z:gH):OpR X zx8 (F2 X.K ze1):=by
 intro p s S H x y v u Q I N M q;obtain⟨R,h,a,b,w,L,l,P,O,e,k⟩:=q;have B:zu4:=by show yZ+40<cLine;omega
 have main:∀g,((drf h 40 a).bind λx=>(Z8 oE g).map λc=>((W.bl (if true then ! Cg else Cg),h):W×MH))=d7 w L->∃d c,Tg/\Z8 oE g=sO c/\w=.bl (!inW d c)/\L=h:=λg e=>by
  show dJ d j U e;show eD c i T U;exact⟨d,c,j,i,rfl,rfl⟩
 have fin:∀{d:W} {c E:aI} {m:bA} {f:aX},Rws X.K R E m->Vals m f->Tg->Z8 oE E=sO c->w=.bl (!inW d c)->L=h->EP X p S Q (.bool (!f.toArray.any AY)) s:=λ{d c E m f} r t ea em C D=>by
  subst C D;rw[Ya2,QbH I l r t em];exact⟨.bl _,H,I,rfl,k R H _ bV l i9⟩
 unfold wIn at e;split at e
 ·rename_i g;obtain⟨d,c,j,i,C,D⟩:=main g e;show B5 m F o l O;cases M;obtain⟨f,n,G,_⟩:=eR F;exact notIn_tupleAt AY (PU f G) (λz J=>Yq I l B P N j o n i z (bZ J)) SA
 ·obtain⟨g,Y,e⟩:=dH e;obtain⟨d,c,j,i,C,D⟩:=main g e;show lW m F o l O Y;cases M;obtain⟨f,n,G,_⟩:=f0 F;exact notIn_listAt AY G.isList (λz J=>Yq I l B P N j o n i z (bZ J)) SA
#print "-"
noncomputable def JE(a b:W)(h:MH):bF:=match a,b with
 |aC i,aC j=>SH
 |c4 x,c4 y=>zQ0
 |.tup d,.tup c=>if zG4 then sO (.tup (d++c),h)else nO
 |a,b=>(loW h a).bind λd=>(loW h b).bind λc=>if zG4 then sO (.lst (d++c),h)else nO
noncomputable def Qag(a b:W)(h:MH):bF:=match a,b with|aC i,aC j=>sO (.int (i-j),h)|_,_=>nO
noncomputable def Qoo(a b:W)(h:MH):bF:=match a,b with|aC i,aC j=>if zn7 then SR else nO|_,_=>nO
noncomputable def QlD(a b:W)(h:MH):bF:=match a,b with|aC i,aC j=>if 0<j/\HQ then zC0 else nO|_,_=>nO
noncomputable def QgA(a b:W)(h:MH):bF:=match a,b with|aC i,aC j=>if 0<j then zC1 else nO|_,_=>nO
noncomputable def Qjw(a b:W)(h:MH):bF:=match a,b with|aC i,aC j=>if zp6 then sO (SU,h)else nO|_,_=>nO
noncomputable def wLt(a b:W)(h:MH):bF:=match a,b with|aC i,aC j=>sO (Bg i j,h)|c4 x,c4 y=>sO (.bl (decide (Sr x y)),h)|_,_=>nO
noncomputable def wLe(a b:W)(h:MH):bF:=match a,b with|aC i,aC j=>sO (B8 i j,h)|c4 x,c4 y=>sO (.bl (!decide (Sr y x)),h)|_,_=>nO
noncomputable def wGt(a b:W)(h:MH):bF:=match a,b with|aC i,aC j=>sO (Bg j i,h)|_,_=>nO
noncomputable def wGe(a b:W)(h:MH):bF:=match a,b with|aC i,aC j=>sO (B8 j i,h)|_,_=>nO
noncomputable def Xm:tP
 |.non=>true
 |_=>false
noncomputable def wIs(a b:W)(h:MH):bF:=match b with
 |.non=>sO (.bl (Xm a),h)
 |.bl y=>match a with|.bl x=>M6 x y|_=>nO
 |_=>nO
noncomputable def Kb(a b:W)(h:MH):bF:=match b with
 |.non=>sO (.bl (!Xm a),h)
 |_=>nO
theorem QiV{K:Ng}(r:mO R a):decide (v=.non)=Xm a:=by
 cases a with
 |non=>rw[r.non_eq];rfl
 |bl _=>rw[r.bl_eq];rfl
 |int _=>rw[r.int_eq];rfl
 |str _=>rw[r.str_eq];rfl
 |ty _=>rw[r.ty_eq];rfl
 |tup _=>show dW r;show zz4
 |lst _=>show dW r;show zz4
 |frz _=>show dW r;show zz4
 |ref _=>show dW r;obtain⟨_,rfl⟩:=r;rfl
section
variable{X:Cx}
noncomputable def QpO(K:Ng):R2:=λx y H Q=>∃a b c d,x=aF a/\y=aF b/\SqT K H a c/\SqT K H b d/\c.length+d.length<=sizeLine /\
 (c=[]->Q (aD b) H)/\(c≠[]->d=[]->Q (aD a) H)/\(c≠[]->d≠[]->∀p,lL->Q (aD p) (upd H p (.tup (c++d))))
theorem op_catA:OpR X AX (QpO X.K):=by
 intro c s A H x y v u Q I p o h;obtain⟨a,b,m,B,rfl,rfl,w,t,O,G,F,E⟩:=h
 by_cases i:m=[]
 ·subst i;show kR p o;obtain⟨N,D,L,_⟩:=eR w;obtain⟨d,P,J,_⟩:=eR t;cases D;obtain⟨⟨cls,dd,data,C⟩,q,r,n,hd⟩:=id L;obtain⟨⟨z,l,data2,j⟩,e,g,M,f⟩:=id J;simp only at r hd g f;subst r hd g f
  exact YaC (gN q) (gN e) Oc Yam IE Iv (Ia _ _)
   (tuple_addW0 a b #[] d.toArray n M dd l C j aB) ⟨q,e,⟨aF b,H,I,rfl,G rfl⟩⟩
 ·exact Qj6 c s A H _ _ v u Q I p o ⟨a,b,m,B,rfl,rfl,w,t,i,O,F i,E i⟩
theorem Qd4:OpR X zA4 (λx y H Q=>∃i j,x=c4 i/\y=c4 j/\Q (.bl (!decide (Sr j i))) H):=by
 intro a s d H x y v u Q I c b h;show CO;show aN t c;show aN e b;exact PySem.P.le_str ⟨.bl _,H,I,rfl,q⟩
theorem Qoa:OpR X zD0 (λx y H Q=>∃i j,x=.bl i/\y=.bl j/\Q (.bl (i==j)) H):=by
 intro a s d H x y v u Q I c b h;show CO;show kR c b;exact is_bool ⟨.bl _,H,I,rfl,q⟩
theorem QD:OpR X AX (F2 X.K JE):=by
 intro m s O H x y v u Q I S P q;refine(op_add.or (op_add_str.or (op_catA.or Qnw))) m s O H x y v u Q I S P ?_;obtain⟨R,h,a,b,w,T,c,i,g,e,k⟩:=q;unfold JE at e;split at e
 ·cases e;exact .inl ⟨_,_,i.int_eq,g.int_eq,k R H _ bV c l8⟩
 ·split at e
  ·show g6 E e;exact .inr (.inl ⟨_,_,i.str_eq,g.str_eq,E,k R H _ bV c ze2⟩)
  ·cases e
 ·split at e
  ·rename_i L J E;cases e;obtain⟨ad,t,o,C,l⟩:=c.tupAt i;obtain⟨F,r,n,B,j⟩:=c.tupAt g;show cP N l;show cP M j;refine .inr (.inr (.inl ⟨ad,F,t,r,o,n,C,B,aQ,k3 z,λ_ z=>?_,λ_ _ p D=>?_⟩))
   ·subst z;have:L=[]:=Ee.mp N;subst this;exact k R H _ bV c (n▸g)
   ·subst z;have:J=[]:=Ee.mp M;subst this;rw[Dd]at k;exact k R H _ bV c (o▸i)
   ·obtain⟨G,A,f,d⟩:=c.tup D (Rws.append l j);exact k4 G A f d
  ·cases e
 ·obtain⟨L,o,e⟩:=dH e;obtain⟨J,n,e⟩:=dH e;split at e
  ·show g6 E e;obtain⟨ad,t,f1,C,l⟩:=c.loAt i o;obtain⟨F,r,f2,B,j⟩:=c.loAt g n;show cP N l;show cP M j;refine .inr (.inr (.inr ⟨ad,F,t,r,f1,f2,C,B,cC,bG p D⟩));obtain⟨G,A,f,d⟩:=c.lstI D (Rws.append l j);exact k4 G A f d
  ·cases e
theorem Xc:OpR X (binaryOp .Sub) (F2 X.K Qag):=by
 intro c s d H x y v u Q I g f q;refine QmO c s d H x y v u Q I g f ?_;obtain⟨R,h,a,b,w,m,i,l,j,e,k⟩:=q;unfold Qag at e;split at e
 ·cases e;exact⟨_,_,l.int_eq,j.int_eq,k R H _ bV i l8⟩
 ·cases e
theorem Qlw:OpR X SN (F2 X.K Qoo):=by
 intro c s d H x y v u Q I g f q;refine Qmo c s d H x y v u Q I g f ?_;obtain⟨R,h,a,b,w,n,i,l,j,e,k⟩:=q;unfold Qoo at e;split at e
 ·split at e
  ·show g6 m e;exact⟨_,_,l.int_eq,j.int_eq,m,k R H _ bV i l8⟩
  ·cases e
 ·cases e
theorem Qfs:OpR X (binaryOp .FloorDiv) (F2 X.K QlD):=by
 intro c s d H x y v u Q I g f q;refine QjN c s d H x y v u Q I g f ?_;obtain⟨R,h,a,b,w,n,i,l,j,e,k⟩:=q;unfold QlD at e;split at e
 ·split at e
  ·show g6 m e;exact⟨_,_,l.int_eq,j.int_eq,m,k R H _ bV i l8⟩
  ·cases e
 ·cases e
theorem YD:OpR X (binaryOp .Mod) (F2 X.K QgA):=by
 intro c s d H x y v u Q I g f q;refine Qmf c s d H x y v u Q I g f ?_;obtain⟨R,h,a,b,w,n,i,l,j,e,k⟩:=q;unfold QgA at e;split at e
 ·split at e
  ·show g6 m e;exact⟨_,_,l.int_eq,j.int_eq,m,k R H _ bV i l8⟩
  ·cases e
 ·cases e
theorem QeZ:OpR X (binaryOp .Pow) (F2 X.K Qjw):=by
 intro c s d H x y v u Q I g f q;refine Qoy c s d H x y v u Q I g f ?_;obtain⟨R,h,a,b,w,n,i,l,j,e,k⟩:=q;unfold Qjw at e;split at e
 ·split at e
  ·show g6 m e;exact⟨_,_,l.int_eq,j.int_eq,m,k R H _ bV i l8⟩
  ·cases e
 ·cases e
theorem Qa8:OpR X zC9 (F2 X.K wLt):=by
 intro c s i H x y v u Q I l j q;refine(op_lt.or Qfz) c s i H x y v u Q I l j ?_;obtain⟨R,h,a,b,w,m,d,g,f,e,k⟩:=q;unfold wLt at e;split at e
 ·cases e;exact .inl ⟨_,_,g.int_eq,f.int_eq,k R H _ bV d i9⟩
 ·cases e;exact .inr ⟨_,_,g.str_eq,f.str_eq,k R H _ bV d i9⟩
 ·cases e
theorem Qnf:OpR X zA4 (F2 X.K wLe):=by
 intro c s i H x y v u Q I l j q;refine(op_le.or Qd4) c s i H x y v u Q I l j ?_;obtain⟨R,h,a,b,w,m,d,g,f,e,k⟩:=q;unfold wLe at e;split at e
 ·cases e;exact .inl ⟨_,_,g.int_eq,f.int_eq,k R H _ bV d i9⟩
 ·cases e;exact .inr ⟨_,_,g.str_eq,f.str_eq,k R H _ bV d i9⟩
 ·cases e
theorem Xl:OpR X (compareOp .Gt) (F2 X.K wGt):=by
 intro c s d H x y v u Q I g f q;refine Qqm c s d H x y v u Q I g f ?_;obtain⟨R,h,a,b,w,m,i,l,j,e,k⟩:=q;unfold wGt at e;split at e
 ·cases e;exact⟨_,_,l.int_eq,j.int_eq,k R H _ bV i i9⟩
 ·cases e
theorem Qof:OpR X (compareOp .GtE) (F2 X.K wGe):=by
 intro c s d H x y v u Q I g f q;refine Qpa c s d H x y v u Q I g f ?_;obtain⟨R,h,a,b,w,m,i,l,j,e,k⟩:=q;unfold wGe at e;split at e
 ·cases e;exact⟨_,_,l.int_eq,j.int_eq,k R H _ bV i i9⟩
 ·cases e
theorem QiY:OpR X zD0 (F2 X.K wIs):=by
 intro c s i H x y v u Q I l j q;refine(op_isN.or Qoa) c s i H x y v u Q I l j ?_;obtain⟨R,h,a,b,w,m,d,g,f,e,k⟩:=q;unfold wIs at e;split at e
 ·cases e;exact .inl ⟨f.non_eq,by rw[QiV g];exact k R H _ bV d i9⟩
 ·split at e
  ·cases e;exact .inr ⟨_,_,g.bl_eq,f.bl_eq,k R H _ bV d i9⟩
  ·cases e
 ·cases e
theorem Xw:OpR X (compareOp .IsNot) (F2 X.K Kb):=by
 intro c s d H x y v u Q I g f q;refine Qlx c s d H x y v u Q I g f ?_;obtain⟨R,h,a,b,w,m,i,l,j,e,k⟩:=q;unfold Kb at e;split at e
 ·cases e;exact⟨j.non_eq,by rw[QiV l];exact k R H _ bV i i9⟩
 ·cases e
noncomputable def Yt(a:W)(h:MH):bF:=match a with|aC i=>sO (.int (-i),h)|_=>nO
theorem Jg(f:PM X a d):PM X (.UnaryOp .USub a pos) (mUn Yt d):=ZH (Qpb Qn5 f) λi H Q q=>V7 (un1 q) <|by
 rintro x g ⟨R,h,a,w,j,b,c,e,k⟩
 unfold Yt at e;split at e
 ·cases e;exact⟨_,c.int_eq,k R g _ bV b l8⟩
 ·cases e
noncomputable def wIx(a b:W)(h:MH):bF:=match b with
 |aC i=>match a with
  |.tup d=>jr5
  |c4 x=>if Db then(atI x.cps.toList i).map λc=>(HS c,h)else nO
  |a=>(lsW h a).bind λd=>jr5
 |_=>nO
theorem QfZ{K:Ng}(r:iF)(e:atI ws i=sO w):∃v,atI xs i=sO v/\fI:=by
 unfold atI at e ⊢;show u3 r;show dJ j d c e;show iJ v b a r c;exact⟨v,nA d b,a⟩
theorem Qls:IxR X (F2 X.K wIx):=by
 intro value slice f s z H x y v u Q I D C q E;refine Qmd value slice f s z H x y v u Q I D C ?_ E;obtain⟨R,h,a,b,w,J,d,n,m,e,k⟩:=q;unfold wIx at e;split at e
 ·show P7 i e
  ·rename_i A;show eD B j g e;show B5 l r p d n;obtain⟨v1,t,o⟩:=QfZ p j;exact .inr (.inl ⟨ad,l,i,v1,rfl,m.int_eq,r,t,k R H _ bV d o⟩)
  ·split at e
   ·rename_i F;show eD c j g e;exact .inr (.inr ⟨_,i,c,n.str_eq,m.int_eq,F,j,k R H _ bV d ze2⟩)
   ·cases e
  ·obtain⟨A,G,e⟩:=dH e;show eD B j g e;show lW l r p d n G;obtain⟨v1,t,o⟩:=QfZ p j;exact .inl ⟨ad,l,i,v1,rfl,m.int_eq,r,t,k R H _ bV d o⟩
 ·cases e
theorem Qp(i:PM X a f)(h:PM X b e)(g:Qby b:=by intro _ _;rfl):PM X (yQ a b) (Qn wIx f e):=
 ZH (QpS Qls i h g) λ_ _ _ q=>V7 P6 λ_ _ d=>V7 d (fR c)
noncomputable def JB(ws:aI)(h:MH):bF:=match ws with
 |[c4 x]=>if Db then sO (.int x.length,h)else nO
 |[fD]=>sO AL
 |[a]=>(lsW h a).map λws=>AL
 |_=>nO
theorem Qs{K:Ng}:Qkw K (Fs K f) f:=λ_ _ _ q=>q
theorem Wf{K:Ng}(r:Rws K R [a] xs):∃v,xs=[v]/\mO R a:=by
 show i3 r v d c b;show iD b;exact⟨v,rfl,c⟩
theorem QjO{K:Ng}(r:Rws K R [a,b] xs):∃v u,xs=[v,u]/\mO R a/\Rw K R b u:=by
 show i3 r v f e d;show q5 u c d;exact⟨v,u,rfl,e,c⟩
theorem Qx:CallR X SQ (Fs X.K JB):=by
 intro d s i H a j Q I r q;refine(call_len_seq.or Qau) d s i H a j Q I r ?_;obtain⟨R,h,p,w,t,b,rw,e,k⟩:=q;unfold JB at e;split at e
 ·split at e
  ·show g6 l e;show AT c;exact .inr ⟨_,by rw[c.str_eq],l,k R H _ bV b l8⟩
  ·cases e
 ·show Pr c a g f b;exact .inl ⟨ad,a,rfl,k6 g,by show u3 f;exact k R H _ bV b l8⟩
 ·show eD o n m e;show AT c;show lW a g f b c n;exact .inl ⟨ad,a,rfl,eH g,by show u3 f;exact k R H _ bV b l8⟩
 ·cases e
noncomputable def XA(ws:aI)(h:MH):bF:=match ws with
 |[fD]=>sO (fD,h)
 |[a]=>(lsW h a).map λws=>(fD,h)
 |_=>nO
noncomputable def Qg3(ws:aI)(h:MH):bF:=match ws with
 |[fD]=>sO (eV,h)
 |[a]=>(lsW h a).map λws=>(eV,h)
 |_=>nO
theorem ZX:CallR X yG (Fs X.K XA):=by
 intro b s l H a n Q I r q;refine Gc b s l H a n Q I r ?_;obtain⟨R,h,z,w,A,c,rw,e,k⟩:=q;unfold XA at e;split at e
 ·show Pr d a i j c;exact⟨ad,a,rfl,.inr ⟨i,k R H _ bV c d⟩⟩
 ·show eD y u t e;show AT d;show lW a i j c d u;refine⟨ad,a,rfl,.inl ⟨i,bG p o⟩⟩;obtain⟨x,m,g,f⟩:=c.tup o j;exact k4 x m g f
 ·cases e
theorem QdF:CallR X rZ (Fs X.K Qg3):=by
 intro d s o H c t Q I r q;refine YH d s o H c t Q I r ?_;obtain⟨R,h,z,w,A,f,rw,e,k⟩:=q;unfold Qg3 at e;split at e
 ·show Pr j c l i f;refine⟨ad,c,rfl,k6 l,bG p m⟩;obtain⟨n,g,b,a⟩:=f.lstI m i;exact k4 n g b a
 ·show eD y x u e;show AT j;show lW c l i f j x;refine⟨ad,c,rfl,eH l,bG p m⟩;obtain⟨n,g,b,a⟩:=f.lstI m i;exact k4 n g b a
 ·cases e
#print "-"
section
variable{prog:Program}{w:World}{A:Around}{E:bJ}{s:Shared}
theorem KR{lo b:dS}(a:IsTup s.heap t items)(i:Su g l j)(n:IsPart l lo)(pu:IsPart j b)
  (hw:zu5=0/\jf7=items.size) (h:Q (aD t) s):wpAny aT A (getItem (aD t) (aD g)) Q E s:=by
 obtain⟨os,c,e,o⟩:=id i;have f:s.TypeIs (aD g) "slice":=⟨os,c,e⟩
 unfold getItem
 show zv2
 first|refine Na fP|skip
 refine Na (LS a.typeIs aE ?_)
 refine Na (EG (name:=jl6) a.typeIs EH
  (zQ8 a))
 show wpAny _ _ (Builtin.Tuple.tupleItemsOf (aD t)>>=_) _ _ s;show jt9 a f;rw[if_pos aE];refine Na (HT.sliceApplied_gen i n pu ?_)
 have d:(zM6=true):=by
  rw[hw.1,hw.2];simp
 show wpAny _ _ (if zM6=true then _ else _) _ _ s;rw[bH d];refine Na (m:=Builtin.Tuple.tupleIsExact _) ?_;unfold Builtin.Tuple.tupleIsExact;refine Na (Dt a.typeIs fP);rw[if_pos aE];exact Na (De CJ)
#print "-"
noncomputable def Ye(xs:cE a)(lo b:dS):cE a:=(xs.drop jn5).take (CH b-AA)
noncomputable def wSl(a:W)(lo c:dS)(h:MH):bF:=match a with
 |.tup b=>sO (.tup (Ye b lo c),h)
 |c4 x=>if Db then sO (.str (Txt.slice x lo c),h)else nO
 |a=>(lsW h a).map λb=>(.lst (Ye b lo c),h)
theorem Qgo{K:Ng}{ws:aI}(r:iF)(lo a:dS):Rws K R TZ (Qg6 xs lo a):=by
 unfold Ye Qg6;rw[r.length];exact(r.drop _).take _
theorem Qbu(xs:cE b)(lo a:dS):(Ye xs lo a).length<=xs.length:=by
 unfold Ye;rw[E3,Od];exact Nn MU qX
theorem QdK{xs:cE b}{lo a:dS}(h:AA=0/\CH a=xs.length):Ye xs lo a=xs:=by
 unfold Ye;rw[h.1,h.2];simp
noncomputable abbrev MOp:=MSt->MH->Option (dS×MH)
noncomputable def tIO(K:Ng)(m:MOp):TO:=λe H Q=>∃R a h o b,eG/\iP R a e/\m a h=d7 o b/\∀c d,kT c->Rh K c b d->Q o d
def PMO(X:Cx)(e:zc3)(m:MOp):Prop:=PO X e (tIO X.K m)
noncomputable def Qa1:MOp:=λ_ h=>sO (nO,h)
noncomputable def Qay(m:ME):MOp:=λa h=>(m a h).bind λp=>match p.1 with|aC i=>sO (sO i,p.2)|_=>nO
noncomputable def mSl(d:ME)(b c:MOp):ME:=λa h=>(d a h).bind λp=>(b a p.2).bind λq=>(c a q.2).bind λr=>wSl p.1 q.1 r.1 r.2
section
variable{X:Cx}
theorem sl_tupA:SlR X (λx lo b H Q=>∃a xs,x=aF a/\Tu/\((AA=0/\CH b=xs.length)->Q (aD a) H) /\
  (¬(AA=0/\CH b=xs.length)->∀p,lL->Q (aD p) (upd H p (.tup (Qg6 xs lo b))))):=by
 intro c s m H x v o n lo b q Q I f l g pu h;obtain⟨a,xs,rfl,i,u,t⟩:=h
 by_cases hw:AA=0/\CH b=xs.length
 ·cases f;obtain⟨e,r,j,w⟩:=eR i;have d:e.toArray.size=xs.length:=jh1
  refine ja8;exact KR j l g pu (by rw[d];exact hw) ⟨aF a,H,I,rfl,u hw⟩
 ·exact Qor c s m H (aD a) v o n lo b q Q I f l g pu ⟨a,xs,rfl,i,hw,t hw⟩
theorem Qnu:SlR X (λx lo f H Q=>∃z,x=c4 z/\zz0/\Q (.str (Txt.slice z lo f)) H):=by
 intro a s m H x v r p lo f w Q I n c o pu h;obtain⟨z,rfl,b,q⟩:=h;show aN t n;refine⟨"str",_,PySem.F.slot_str_getitem.lookup,typeIs_str _ _ _,?_⟩;have fin:∀(e:Tok) (k:Nat),EP X a m Q (.str (Txt.slice z lo f) e) { s with toks:=k }:=λe k=>⟨lM,H,hG,C6 e,q⟩
 cases o with
 |none=>
  cases pu with
  |none=>exact Fq (l:=nO) (u:=nO) (st:=nO) c rfl PZ
  |int j d=>exact Fq (l:=nO) (u:=d7 j d) (st:=nO) c rfl PZ
 |int i g=>
  cases pu with
  |none=>exact Fq (l:=d7 i g) (u:=nO) (st:=nO) c rfl PZ
  |int j d=>exact Fq (l:=d7 i g) (u:=d7 j d) (st:=nO) c rfl PZ
theorem Ku:PMO X nO Qa1:=λa s c H Q I d=>by
 obtain⟨R,b,h,o,g,f,st,e,k⟩:=d;cases e;exact Qkm a s c H Q I (k R H bV f)
theorem KC(l:zP):PMO X (sO e) (Qay m):=λa s f H Q I g=>by
 obtain⟨R,b,h,o,t,j,st,q,k⟩:=g;refine QlL l a s f H Q I ?_;show dD w n p d q;refine⟨R,b,h,w,n,j,st,p,qO r v i c⟩;cases w<;>simp only at d<;>first|(cases d;exact⟨_,rv.int_eq,k R1 r i c⟩)|cases d
theorem Kz{lo B:zc3}{pos L:Pos}(U:PM X a O)(S:PMO X lo M)(T:PMO X B N):PM X (.Subscript a (.Slice lo B nO L) pos) (mSl O M N):=
 ZH (QhS (sl_list.or (sl_tupA.or Qnu)) U S T) λσ H Q G=>by
  obtain⟨R,f,h,w,h',J,st,e,k⟩:=G;obtain⟨⟨a,D⟩,ea,e2⟩:=dH e;obtain⟨⟨l,C⟩,el,e3⟩:=dH e2;show dD u Y Z d e3;refine⟨R,f,h,a,D,J,st,ea,λR1 H1 x r t I=>⟨R1,f,D,l,C,t,r6 r,el,λR2 H2 q s=>⟨R2,f,C,u,Y,s,st.mono (dX r q),Z,eE E F A b⟩⟩⟩;have c:=Rw.mono (dX q A) _ _ I;have j:=k.ext (iG r q A);dsimp only at d;unfold wSl at d;split at d
  ·cases d;show B5 n v m b c;refine .inr (.inl ⟨ad,n,rfl,v,λhw=>?_,λ_ p y=>?_⟩)
   ·rw[QdK (by rw[m.length];exact hw)]at j;exact j E F _ bV b c
   ·obtain⟨z,o,i,g⟩:=b.tup y (Qgo m l u);exact j z _ _ o i g
  ·split at d
   ·show g6 P d;exact .inr (.inr ⟨_,c.str_eq,P,j E F _ bV b ze2⟩)
   ·cases d
  ·obtain⟨ys,e5,e6⟩:=kS d;cases e6;show lW n v m b c e5;refine .inl ⟨ad,n,rfl,v,bG p y⟩;obtain⟨z,o,i,g⟩:=b.lstI y (Qgo m l u);exact j z _ _ o i g
#print "-"
def Qik(X:Cx)(id:String)(f:W->aI->MH->bF):Prop:=
 MtR X id (λx d H Q=>∃R h a b w c,kG/\fC a x/\Rws X.K R b d/\f a b h=d7 w c/\After X.K R w c Q)
noncomputable def tyW(h:MH)(T:String):tP
 |lM=>T=="str"
 |nP=>T=="int"
 |.lst _=>MN
 |.frz _=>MN
 |aF n=>match h[n]? with|some zT=>MN|zK3=>MP|zK4=>MP|_=>false
 |_=>false
noncomputable def mMt(T:String)(f:W->aI->MH->bF)(mo:ME)(ms:MA):ME:=λa h=>(mo a h).bind λp=>if tyW p.2 T p.1=true then(ms a p.2).bind λq=>TV else nO
theorem QfI{K:Ng}{x:V}(c:eG)(r:zf5)(e:tyW h T a=true):tyV K T x H:=by
 cases a with
 |str _=>rw[r.str_eq];exact Fc e
 |int _=>rw[r.int_eq];exact Fc e
 |lst _=>
  obtain⟨ad,b,rfl,q,_⟩:=c.lstAt r;exact .inl ⟨Fc e,b,p6 q⟩
 |frz _=>
  obtain⟨ad,b,rfl,q,_⟩:=c.frzAt r;exact .inl ⟨Fc e,b,q⟩
 |ref n=>
  simp only[tyW]at e;split at e
  ·rename_i j d;obtain⟨_,rfl,b,f,_⟩:=c.refAt r d;exact .inl ⟨Fc e,b,p6 f⟩
  ·rename_i i d;show dW r;obtain⟨g,f,_⟩:=nN c d;rw[r.2];exact .inr (.inr (.inl ⟨Fc e,.inl (fF g f)⟩))
  ·rename_i i d;show dW r;obtain⟨g,f,_⟩:=nN c d;rw[r.2];exact .inr (.inr (.inl ⟨Fc e,.inr (fF g f)⟩))
  ·cases e
 |_=>cases e
section
variable{X:Cx}{o e:Expr}{es:fY}{mo:ME}{ms:MA}{name:Str}{apos cpos:Pos}{T id:String}{f:W->aI->MH->bF}
theorem QmY{X:Cx}{e:Expr}{es:fY}{cpos:Pos}(a:je8)(c:nB)(b:vJ) :
  ((backTo cpos (starEach i1 X.env)).all zb1&&zl5
   && zM9)=true:=by
 rw[QgS (by unfold KL at b ⊢;rw[Yao,c,b];rfl)];exact a
theorem Xi(B:X')(slot:Tw)(p:Po)(E:Qik X id f)(D:BN)(F:PMA X i1 ms)
  (d:Pn:=by rfl) (j:je8:=by rfl)
  (c:CD:=by rfl) (u:nB:=by rfl) (b:vJ:=by rfl) :
  PM X (.Call RA i1 [] cpos) (mMt T f mo ms):=
 ZH (QqJ B slot p E D F d (QmY j u b) c (Q2 u) (JP b)) λL H Q z=>by
  obtain⟨R,g,h,w,G,A,st,e,k⟩:=z;show dD a y I l e;show rS l
  ·rename_i C;obtain⟨⟨s,v⟩,es,J⟩:=dH l;exact⟨R,g,h,a,y,A,st,I,λR1 O x r i t=>⟨QfI i t C,R1,g,y,s,v,i,r6 r,es,λR2 N M q n m=>⟨R2,v,a,s,w,G,n,sU q t,m,J,k.ext (dX r q)⟩⟩⟩
  ·cases l
theorem QcY(r:X')(slot:Tw)(j:Po)(u:Qik X id f)(t:BN)
  (c:Pn:=by rfl) (b:CD:=by rfl):PM X (.Call RA [] [] cpos) (mMt T f mo Ql):=
 ZH (Qov r slot j u t c b) λA H Q n=>by
  obtain⟨R,i,h,w,v,q,st,e,k⟩:=n;show dD a m y g e;show rS g
  ·rename_i s;obtain⟨⟨B,C⟩,es,z⟩:=dH g;cases es;exact⟨R,i,h,a,m,q,st,y,λR1 D x p d l=>⟨QfI d l s,R1,m,a,[],w,v,d,l,Rws.nil,z,k.ext p⟩⟩
  ·cases g
#print "-"
noncomputable def ZD(a:W)(ws:aI)(h:MH):bF:=match a,ws with
 |aF n,[w]=>match h[n]? with|zh3 b=>if b.length<sizeLine then sO (.non,h.set n (.lst (b++[w])))else nO|_=>nO
 |_,_=>nO
noncomputable def WT(a:W)(ws:aI)(h:MH):bF:=match a,ws with
 |aF n,[w]=>match h[n]? with|zh3 c=>(loW h w).bind λb=>if c.length+b.length<=sizeLine then sO (.non,h.set n (.lst (c++b)))else nO|_=>nO
 |_,_=>nO
noncomputable def QlP(a:W)(ws:aI)(h:MH):bF:=match a,ws with
 |aF n,[]=>match h[n]? with|zh3 b=>(b[b.length-1]?).map λw=>(w,h.set n (.lst b.dropLast))|_=>nO
 |_,_=>nO
section
variable{X:Cx}
theorem Rws.dropLast{K:Ng}(r:iW a):Rws K R ws.dropLast a.dropLast:=by
 rw[O1,O1,r.length];exact r.take _
theorem Za:Qik X "list.append" ZD:=by
 intro b s i H x l v m Q I p rv q;refine Qen b s i H x l v m Q I p rv ?_;obtain⟨R,h,a,B,w,D,f,r,c,e,k⟩:=q;unfold ZD at e;split at e
 ·show vZ n C e
  ·show vZ A t e
   ·show g6 u e;obtain⟨d,rfl,j,z,g⟩:=f.refAt r t;show q5 y o c;refine⟨_,j,y,rfl,rfl,z,nW g u,?_⟩;exact k R _ _ bV (f.put d ⟨_,rfl,Rws.append g (Rws.cons o Rws.nil)⟩) Rw.non
   ·cases e
  ·cases e
 ·cases e
theorem UZ:Qik X "list.extend" WT:=by
 intro b s j H x o v p Q I t rv q;refine Qfn b s j H x o v p Q I t rv ?_;obtain⟨R,h,a,J,w,M,d,u,c,e,k⟩:=q;unfold WT at e;split at e
 ·show vZ n L e
  ·rename_i G z;obtain⟨F,D,e⟩:=dH e;split at e
   ·show g6 A e;obtain⟨f,rfl,m,C,i⟩:=d.refAt u z;show q5 y r c;obtain⟨E,l,rfl,B,g⟩:=d.loAt r D;refine⟨_,E,m,l,rfl,rfl,C,B,by rw[<-i.length,<-g.length];exact A,?_⟩;exact k R _ _ bV (d.put f ⟨_,rfl,Rws.append i g⟩) Rw.non
   ·cases e
  ·cases e
 ·cases e
theorem Gx:Qik X "list.pop" QlP:=by
 intro c s i H x l v m Q I p rv q;refine Qmv c s i H x l v m Q I p rv ?_;obtain⟨R,h,a,D,w,F,g,r,b,e,k⟩:=q;unfold QlP at e;split at e
 ·show P7 n e
  ·rename_i C t;show eD E B A e;obtain⟨f,rfl,j,u,d⟩:=g.refAt r t;show iD b;show iJ y z o d B;refine⟨_,j,y,rfl,rfl,u,nW d z,?_⟩;exact k R _ _ bV (g.put f ⟨_,rfl,d.dropLast⟩) o
  ·cases e
 ·cases e
#print "-"
noncomputable def Qhq(h:MH):W->Option String
 |.non=>sO "NoneType"
 |.bl _=>sO "bool"
 |nP=>sO "int"
 |lM=>sO "str"
 |.tup _=>sO "tuple"
 |.lst _=>sO "list"
 |.frz _=>sO "list"
 |aF n=>match h[n]? with|some zT=>sO "list"|zK3=>sO "dict"|zK4=>sO "dict"|_=>nO
 |.ty _=>nO
noncomputable def Wv(k T:String):Bool:=k==T ||(k=="bool"&&T=="int")
noncomputable def Qbb(T:String):Bool:=T=="str" ||T=="int" ||T=="bool" ||MN ||T=="tuple" ||MP
noncomputable def QoK(ws:aI)(h:MH):bF:=match ws with
 |[a,.ty T]=>if Qbb T=true then(Qhq h a).map λk=>(.bl (Wv k T),h)else nO
 |_=>nO
theorem W5{K:Ng}(c:k="NoneType"\/k="bool"\/k="int"\/k="str"\/k="tuple"\/k="list"\/k="dict")(b:Qbb T=true):Ybd K (.type k) vQ=sO (Wv k T):=by
 have a:T="str"\/T="int"\/T="bool"\/T="list"\/T="tuple"\/T="dict":=by
  unfold Qbb at b;simp only[DW,beq_iff_eq]at b
  rcases b with((((h|h)|h)|h)|h)|h<;>simp[h]
 rcases c with rfl|rfl|rfl|rfl|rfl|rfl|rfl<;>rcases a with rfl|rfl|rfl|rfl|rfl|rfl<;>first|rfl|show C9
section
variable{X:Cx}
theorem QfV:CallR X zs6 (Fs X.K QoK):=by
 intro g s M H Z us Q I r q;obtain⟨R,h,ws,w,h',j,D,e,k⟩:=q;unfold QoK at e;split at e
 ·show vZ a T e
  ·rename_i J;show eD N c Y e;show P8 x y d O D;obtain⟨u,u2,rfl,E,l⟩:=QbR r;rw[O.ty_eq]at l;cases l;have fin:∀tk,EP X g M Q (.bool (Wv N T)) { s with toks:=tk }:=λtk=>⟨.bl _,H,hG,rfl,k R H _ bV j i9⟩
   have one:∀{t:String},TyOf X.K H x (.type t)->N=t->(t="NoneType"\/t="bool"\/t="int"\/t="str"\/t="tuple"\/t="list"\/t="dict")->wpAny bU X.A (call zs6 [u,.type T]) (EP X g M Q) X.xe s:=λ{t} ty U S=>by
    subst U;exact QfD I E ty (W5 S J) fin
   cases a with
   |non=>cases c;rw[d.non_eq]at one;exact one .non rfl aB
   |bl b=>cases c;rw[d.bl_eq]at one;exact one lF rfl aB
   |int i=>cases c;rw[d.int_eq]at one;exact one cT rfl aB
   |str z=>cases c;rw[d.str_eq]at one;exact one (.str z) rfl aB
   |tup C=>
    cases c;obtain⟨ad,B,rfl,m,_⟩:=j.tupAt d;cases E;obtain⟨G,_,p,_⟩:=eR m;obtain⟨o,f,L,_⟩:=p;exact ER YaB I.kIn ⟨o,f,L⟩ (W5 aB J) iE fin
   |lst C=>
    cases c;obtain⟨ad,B,rfl,m,_⟩:=j.lstAt d;exact one (.lst m) rfl aB
   |frz C=>
    cases c;obtain⟨ad,B,rfl,m,_⟩:=j.frzAt d;cases E;obtain⟨G,_,p,_⟩:=f0 m;obtain⟨o,n,f,L,_⟩:=p;exact ER LQ I.kIn ⟨o,f,L⟩ (W5 aB J) iE fin
   |ref n=>
    simp only[Qhq]at c;split at c
    ·show lE C v c;obtain⟨_,rfl,B,f,_⟩:=j.refAt d v;exact one (.lst f) rfl aB
    ·show lE F v c;show dW d;obtain⟨P,f,_⟩:=nN j v;rw[d.2]at one;exact one (.dK f) rfl aB
    ·show lE F v c;show dW d;obtain⟨P,f,_⟩:=nN j v;rw[d.2]at one;exact one (.dT f) rfl aB
    ·cases c
   |ty _=>cases c
  ·cases e
 ·cases e
#print "-"
structure Cal(P:Program)(w:World)(K:Ng)(mg:eK)(base:Heap)(k:Nat)(x:Str)(ps:aO)(g:FM):Prop where
 ex:∃(f:Addr) (fd:FuncData),FnOk P w K mg base CX0 k f fd ps (spM K ps.length g)/\mg x=sO (aD f)/\DI K (aD f)=true/\SX/\∃(oc:Value) (od:qB) (osl:CT),lD f=jj4
structure DefAt(K:Ng)(mg:eK)(x:Str)(st:Stmt)(ps:aO):Prop where
 ex:∃(f:Addr) (fd:FuncData),Fun K x x st f fd/\mg x=sO (aD f)/\SX
theorem XR{K:Ng}{h:Heap}{x:Str}{st:Stmt}{f:Addr}{i:Value}{kV d pm cd ct:Value}(X:A4)(G:uP j)
  (a:AM=sO (sO (aD f))) (l:lD f=sO ⟨i,n,.func (DO x x P5 wC nH .none kV d pm g cd ct),m⟩) (c:Lm K cd x=true) (k:DI K (aD f)=true)
  (b:∀(kV d pm:Value) (g:qB) (e ct:Value) (us:aX),zx4->bindArgs (DO x x P5 wC nH .none kV d pm g e ct) zc2=pure Bo):DefAt K j x st ps:=
 ⟨f,_,Qjj l c k,BZ,(Qjj l c k).binds b⟩
structure Glob(K:Ng)(mg:eK)(x:Str)(w:W):Prop where
 ex:∃(v:V) (u:Value),mg x=sO u/\cU v/\∀R,fI
theorem QhU{K:Ng}(X:A4)(G:uP b)(a:AM=sO (sO zA)):Glob K b x cT:=
 ⟨aC i,_,BZ,qC,λ_=>Rw.int i⟩
noncomputable def Ql9:aO->aI:=List.map W.str
theorem Qit{K:Ng}:∀(ys:aO),Rws K R (Ql9 ys) (ys.map V.str):=by
 intro ys
 induction ys with
 |nil=>
  show tT
 |cons y ys a=>
  exact Rws.cons (Rw.str y) (a)
theorem Qey{its:aX}{ys:aO}(h:StrsAre its ys):Vals (ys.map V.str) its:=by
 induction h with
 |nil=>exact .nil
 |cons _ t _ i=>exact .cons qC i
theorem Qm8{K:Ng}{h:Heap}{x:Str}{c:Addr}{n:Nat}(X:A4)(G:uP b)(a:AM=sO (sO (aD c)))
  (l:lD c=sO ⟨i6,dd,.seq its n,e⟩) (hz:Sv) (d:StrsAre its.toList ys):Glob K b x (.tup (Ql9 ys)):=
 ⟨aF c,_,BZ,rfl,λR=>by
  unfold Rw
  exact⟨c,_,rfl,.inr ⟨_,its,n,l,rfl,rfl,hz,Qey d⟩,Qit ys⟩⟩
section
variable{X:Cx}{k n:Nat}{g:FM}{x:Str}{ps:aO}{p pos:Pos}{e:Expr}{es:fY}{ms:MA}
theorem Qj(C:zY1)(c:zD)(j:j1)(o:PMA X i1 ms)(d:ps.length=n:=by rfl)
  (b:i4:=by decide) (l:nB:=by rfl) (a:vJ:=by rfl) :
  PM X xC (Qv n g ms):=by
 obtain⟨f,fd,F,h,i,m,_⟩:=C.ex;subst d;exact QjY F c j h i m Qna o b l a
theorem Qgj(C:zY1)(b:zD)(i:j1)(c:ps.length=n:=by rfl)(a:i4:=by decide):PM X zq1 (Qv n g Ql):=by
 obtain⟨f,fd,F,d,h,j,_⟩:=C.ex;subst c;exact QgV F b i d h j Qna a
theorem Qh7(C:Glob X.K X.mg x w)(b:j1)(hd:i4:=by decide):PM X mY wP:=by
 obtain⟨v,u,a,r,rw⟩:=C.ex;exact Qkk b a r rw hd
theorem Qo5(d:j1)(c:kO=nO)(a:pQ=sO vQ)(b:pP:=by decide)(hd:i4:=by decide):PM X mY (mC (.ty T)):=
 Qln d c a (v:=.ty T) rfl (λ_=>Rw.ty _) b hd
#print "-"
section
variable{P:Program}{w:World}{K:Ng}{mg:eK}{base:Heap}
theorem QK{st:Stmt}(d:DefAt K mg x st ps)(S:FnScope N ps nH)(hN:ju2)
  (c:∀(f:Addr) (b:Value) (A:Around) (a:kI) (s:Shared) (H:Hp) (E:XK),zm4 x b->QeT (Qjh CX0 P w K mg base N x nH f b A a s H E).nox wC m) :
  Cal P w K mg base (k+1) x ps (QM more m):=by
 obtain⟨f,fd,F,l,o⟩:=d.ex;obtain⟨i,h,kV,p,pm,q,b,ct,g,e,lk,n⟩:=F.ex;exact⟨f,fd,Qo7 F S hN (λb A a s H E j=>c f b A a s H E j),l,F.kp,o,i,h,g,lk⟩
theorem Cal.imp(C:RN g)(h:∀a H Q E,spM K ps.length g' a H Q E->spM K ps.length g a H Q E):RN g':=by
 obtain⟨f,fd,F,r⟩:=C.ex;exact⟨f,fd,F.imp h,r⟩
theorem Cal.eq(C:RN g)(h:∀ws a r,ws.length=ps.length->g' ws a=sO r->g ws a=sO r):RN g':=
 C.imp λ_ _ _ _ z=>by
  obtain⟨R,ws,a,w,f,c,d,b,e,k⟩:=z;exact⟨R,ws,a,w,f,c,d,b,h ws a _ c e,k⟩
#print "-"
theorem QcN{K:Ng}:∀(ns:dO),Rws K R (oG W) (oG V):=by
 intro ns
 induction ns with
 |nil=>
  show tT
 |cons n ns a=>
  exact Rws.cons (Rw.int n) (a)
theorem Qpm{l:PySem.W.OpenLaw}{d:DefRec}{K:Params->Ng}{st:Stmt}{sem:FM}{k:Nat}(y:l.most=sO 63)(B:zw3)(P:zH0)(A:d.name="law")
  (T:∀(w:World) (h:Heap),X w h->SF)
  (S:∀(kV c pm:Value) (C:qB) (g ct:Value) (s:Shared) (u:Value),BindsTo s (DO "law" "law" P5 wC nH .none kV c pm C g ct) ⟨[u],[]⟩ [("script",u)])
  (F:∀(w:World) (i:eK) (h:Heap),SF->uP i ->
   DefAt HK i "law" st vK/\∀base:Heap,(K w.params).In base->zA6 i->Cal l.prog w HK i base k "law" vK sem)
  (main:∀ns:dO,ns.length<=63->∃h',sem [.frz (oG W)] []=sO (g7,h')) :
  Ybf q t XP X l.row.toRowW d [] (λf I=>Yba f I):=by
 refine L2.QlV (n:=63) (k:=k) (x:="script") (CX:=λ_=>CX0) (sp:=λw=>spM HK 1 sem) y aE B P T ?_ ?_ λ_ _ _ _ _ z=>z
 ·intro w i fa h KX G b;obtain⟨D,Fn⟩:=F w i h KX G;obtain⟨f,fd,Fu,r,_⟩:=D.ex;rw[A]at b;show bK r b;obtain⟨oc,od,kV,c,pm,C,g,ct,J,e,lk,R⟩:=Fu.ex;refine⟨fd,bG s u,λbase O N=>?_⟩
  rotate_left
  ·obtain⟨f',U,Y,p,_,_,M,L,E,j⟩:=(Fn base O N).ex;show bK r p;rw[lk]at j;cases j;exact Y
  rw[e];exact S kV c pm C g ct s u
 ·intro w H a ns Q hO hS;obtain⟨h',e⟩:=main ns Q;refine⟨⟨λ_=>0,0,H,λ_=>nO⟩,[.frz (oG W)],[],g7,h',rfl,⟨rfl,fR z,λn y=>pX y,λm n r=>pX r,(λn o z=>gL z),(λ_ _ z=>jC z),Bh,(λ_ _ z=>jC z)⟩,?_,e,λR' H' v _ _ rv=>rv.bl_eq⟩;refine Rws.cons ?_ Rws.nil;unfold Rw;exact⟨a,_,rfl,hS,QcN ns⟩
noncomputable def QfH(a:Scope):Bool:=a.names.all λy=>y.2 != .cell&&(y.2 != .local ||zz2==qP)
noncomputable def QpE(N:aO)(xs a:Scope)(cp:lT)(Nb:aO):Bool:=(cp.zip Nb).all λp=>match p.1 with
 |none=>true
 |dY j=>N[j]?==sO p.2&&(xs.names.lookup p.2==kJ ||xs.names.lookup p.2==mK)&&a.names.lookup p.2==mK
noncomputable def Qi9(a:Scope)(ks:aO):Bool:=a.names.all λy=>y.2 != .free ||ks.contains y.1
theorem Xj{env:Env}:∀{a:List (Str×NameKind)} {x:Str},a.lookup x=mK ->
  (a.map λ(n,k)=>if(Ae n)then zH5 else(n,k)).lookup x=kJ \/
  (a.map λ(n,k)=>if(Ae n)then zH5 else(n,k)).lookup x=mK
 |[],_,h=>gL h
 | (n,k)::r,x,h=>by
  have d:=@Xj env r x;rw[ND];dsimp only;cases b:x==n with
  |true=>
   show ze3;cases h
   by_cases c:(NameKind.free==NameKind.free&&jn8&&MC n==kJ)=true
   ·rw[bH c];exact .inl (by simp[EF,b])
   ·rw[bQ c];exact .inr (by simp[EF,b])
  |false=>
   show ze3
   by_cases c:(Ae n)=true
   ·rw[bH c];simp only[EF,b];exact d h
   ·rw[bQ c];simp only[EF,b];exact d h
theorem JI{env:Env}:∀{a:List (Str×NameKind)} {x:Str} {c:NameKind},(∀y∈a,zd1)->(c=.cell\/c=.free) ->
  (a.map λ(n,k)=>if(Ae n)then zH5 else(n,k)).lookup x=sO c->zA7∈a
 |[],_,_,_,_,h=>gL h
 | (n,k)::r,x,c,e,f,h=>by
  rw[ND]at h;dsimp only at h;have g:=@JI env r x c (λy i=>e y (NA _ i)) f;cases d:x==n with
  | true=>
   have:x=n:=Fc d;subst this
   by_cases b:(Ae x)=true
   ·have:k=.free:=by
     simp only[N5,beq_iff_eq]at b;exact b.1.1
    subst this;exact NF
   ·rw[bQ b]at h;simp[EF]at h;subst h
    show hZ f z
    ·exact absurd z (e (x,k) NF)
    ·subst z;exact NF
  |false=>
   refine NA _ (g ?_)
   by_cases b:(Ae n)=true
   ·rw[bH b]at h;simpa only[EF,d]using h
   ·rw[bQ b]at h;simpa only[EF,d]using h
theorem Qdx{cl:yA}(h:He):(x,c)∈cl:=by
 induction cl with
 |nil=>simp at h
 | cons p r d=>
  show lO n a p;cases b:x==n with
  |true=>
   show ze3;cases h;rw[Fc b];exact NF
  |false=>
   show ze3;exact NA _ (d h)
theorem Gh{cl:yA}(h:x∈cl.map (·.1)):∃c,He:=by
 induction cl with
 |nil=>simp at h
 | cons p r d=>
  show lO n a p;cases b:x==n with
  |true=>exact⟨a,by simp only[EF,b]⟩
  |false=>
   show Mw h z
   ·dsimp only at z;rw[z,beq_self_eq_true]at b;cases b
   ·obtain⟨c,e⟩:=d z;exact⟨c,by simp only[EF,b];exact e⟩
theorem WV(g:closureFor d X.env=pure cl)(kind:d.kind=.function)(q:QfH d=true)(t:cl.map (·.1)=ks)(n:Qi9 d ks=true)
  (f:∀p∈cl,X.env.cells.lookup p.1=sO p.2) (hN:X.N=N) (o:X.env.scope=xs) (m:zx6) (u:QpE N xs d cp Nb=true):BlkOk X d cl Nb cp:=by
 have e:∀y∈d.names,zd1:=λy l=>by
  show jb0 q l
 refine⟨g,e,kind,aM y l m,λx c h=>f _ (Qdx h),bG x h,m,λi j x w v=>?_⟩
 ·show zN9 q l m
  ·exact z
 ·have s:zA7∈d.names:=by
   show i7 h
   ·exact JI e fA h
   ·exact JI e vF h
  have:=EW.mp n _ s;simp only[DW,bne_iff_ne,ne_eq,not_true_eq_false,false_or,List.contains_iff_mem]at this;exact Gh (by rw[t];exact this)
 ·have r:(cp.zip Nb)[i]?=sO (sO j,x):=by rw[List.getElem?_zip_eq_some];show k5 w v
  have:=EW.mp u _ (EK r);simp only[N5,DW,beq_iff_eq]at this;obtain⟨⟨a,b⟩,c⟩:=this;refine⟨by rw[hN];exact a,?_,?_,Xj c⟩
  ·rw[o]
   show i7 b
   ·exact .inr (iQ b)
   ·exact .inr (.inr b)
  ·unfold Env.kindOf;rw[o];exact b
theorem VH(kind:a.kind=.function)(l:QfH a=true)(g:Qi9 a []=true)(f:zx6)(n:cp.all (·.isNone)=true):BlkOk X a [] Nb cp:=by
 have d:∀y∈a.names,y.2≠.free:=λy e z=>by
  have:=EW.mp g y e;simp[z]at this
 have b:∀y∈a.names,zd1:=λy e=>by
  show jb0 l e
 refine⟨closureFor_none d,b,kind,aM y e f,λx c h=>gL h,bG x h,f,λi j x o p=>?_⟩
 ·show zN9 l e f
  ·exact z
 ·have m:zA7∈a.names:=by
   show i7 h
   ·exact JI b fA h
   ·exact JI b vF h
  exact absurd rfl (d _ m)
 ·have:=EW.mp n _ (EK o);show iZ
theorem Zt(items:aI)(h:MH):live nO items h:=λ_ z=>jC z
theorem U2{mt:MT}{me:ME}{h:MH}:∀(rest a:aI) (o:bY),
  (∀w∈rest,mt Bi h=oR p)->(∀w∈rest,p w=true->me Bi h=oR f)->zq3 ->
  V6 fin items nO iN mt me rest a (o::caps) h=jl8 p:=by
 intro rest
 induction rest with
 |nil=>
  intro a o _ _ _;unfold V6;rw[nZ];simp
 | cons w rest g=>
  intro a o d e j;unfold V6;rw[nZ];have l:ZP 0 w (o::caps) h=sO Bi:=rfl;rw[l,Nk,d w NF,Nk];have i:zp0:=cN j
  cases c:p w with
  |true=>
   simp only[c];rw[e w NF c,Nk,if_pos aH];rw[g (a++[f w]) tV (yN b d) (yN b e) sC];simp[Ya3,c]
  |false=>
   simp only[c];rw[g a tV (yN b d) (yN b e) aH];simp[Ya3,c]
theorem QaI(c:yH)(a:qL=gP σ2 h2):jf8=JX items nO b body r σ2 h2:=by
 rw[JX,nZ,c,Nk,a,Nk]
theorem Wg:JX items nO b body [] σ h=gP σ h:=by
 rw[JX,nZ]
section
variable{σ σ1:MSt}{h h1 h2 h3:MH}{a b c w:W}{ws:aI}{ma mb mc:ME}{ms:MA}{mt mu:MT}{s1 s2:SM}{f f':W->W->MH->bF}{g:aI->MH->bF}{z:MF}
theorem Qqa:Ql σ h=sO ([],h):=rfl
theorem Qge(e:ma σ h=d7 a h1)(d:ms σ h1=sO (ws,h2)):Qc ma ms σ h=sO (a::ws,h2):=by unfold Qc;rw[e,Nk,d];rfl
#print "-"
theorem QeX(c:zn7):Qoo cT gQ h=SR:=by unfold Qoo;exact bH c
theorem QlY(c:0<j/\HQ):QlD cT gQ h=zC0:=by unfold QlD;exact bH c
theorem Qkh(c:0<j):QgA cT gQ h=zC1:=by unfold QgA;exact bH c
theorem Qlj(c:zp6):Qjw cT gQ h=sO (SU,h):=by unfold Qjw;exact bH c
theorem QkD(a:Db)(e:atI x.cps.toList i=sO d):wIx iX cT h=sO (HS d,h):=by
 unfold wIx;simp only;rw[bH a,e];rfl
noncomputable def Qf6(mo mi mv:ME):SM:=λa h=>(mv a h).bind λv=>(mo a v.2).bind λo=>(mi a o.2).bind λi=>match o.1,i.1 with
 |aF n,aC k=>match i.2[n]? with
  |zh3 b=>(ixN b.length k).map λj=>.nx a (i.2.set n (.lst (b.set j v.1)))
  |_=>nO
 |_,_=>nO
section
variable{X:Cx}{o i e:Expr}{mo mi mv:ME}{pos pos':Pos}
theorem Qnt{K:Ng}(q:tS K (Qf6 mo mi mv) D σ H):QoP (tI K mv) (QrH (tI K mo) (tI K mi) QmQ) D σ H:=by
 obtain⟨R,a,h,r,F,s,e,k⟩:=q;show dD v w Y U e;obtain⟨⟨ob,u⟩,T,S⟩:=dH U;show dD I M Q b S;refine⟨R,a,h,v,w,F,s,Y,λR1 H1 x g m E=>⟨R1,a,w,ob,u,m,s.mono g,T,λR2 H2 y f l C=>⟨R2,a,u,I,M,l,s.mono (dX g f),Q,λZ H3 z d c B=>?_⟩⟩⟩;show rS b
 ·show vZ n G b
  ·rename_i xs J;show eD j P O b;obtain⟨p,N,A,L,t⟩:=c.refAt (Rw.mono d _ _ C) J;refine⟨_,A,G,j,N,B.int_eq,L,nW t P,?_⟩;exact k Z _ σ (iG g f d) (c.put p ⟨_,rfl,t.set j (Rw.mono (dX f d) _ _ E)⟩) (s.mono (iG g f d))
  ·cases b
 ·cases b
theorem Kh(d:BN)(f:zi7)(g:zi8)
  (h:∀v,assign zu3 X.env v=(do
   let a <-holding [v] (lA o)
   let b <-holding [v,a] (lA i)
   standAt pos'
   holding [v,a,b] (setItem a b v)
   release [v,a,b] []):=by intro _;rfl)
  (c:BB:=by rfl) (hw:swappedStores zv4 e X.env=pure nO:=by rfl):PMS X Pz (Qf6 mo mi mv):=
 X4 (Qjc g (Qnp d f set_list h) (show zl2 from K6 c) hw rfl) λ_ _ _=>Qnt
#print "-"
noncomputable def QfA(a b:W)(h:MH):bF:=match a,b with|aC i,aC j=>SH|_,_=>nO
section
variable{X:Cx}{o i e:Expr}{mo mi mv:ME}{pos pos':Pos}
theorem QcM:OpR X (inplaceOp .Add) (F2 X.K QfA):=by
 intro c s d H x y v u Q I g f q;refine Qlg c s d H x y v u Q I g f ?_;obtain⟨R,h,a,b,w,n,j,m,l,e,k⟩:=q;unfold QfA at e;split at e
 ·cases e;exact⟨_,_,m.int_eq,l.int_eq,k R H _ bV j l8⟩
 ·cases e
#print "-"
noncomputable def YM(a:W)(ws:aI)(h:MH):bF:=match ws with
 |[w]=>(lsW h a).bind λc=>(drf h 40 w).bind λx=>(Z8 oE c).bind λb=>(b.findIdx? λy=>eqW y x).map λj=>(.int (j:Nat),h)
 |_=>nO
theorem Qak(hu:gH):Qik X "list.index" YM:=by
 intro U s σ H x xs v us Q I rx rv q;obtain⟨R,h,a,ws,w,h',p,ra,C,e,k⟩:=q;unfold YM at e;split at e
 ·rename_i w1;obtain⟨T,e1,e⟩:=dH e;obtain⟨r,e2,e⟩:=dH e;obtain⟨S,P,e⟩:=dH e;show eD j e4 e5 e;obtain⟨y,rfl,ry⟩:=Wf C;obtain⟨u,rfl,ru⟩:=KH rv;obtain⟨ad,xv,rfl,q1,G⟩:=p.lsAt ra e1;cases rx;obtain⟨c,B,p1,hz⟩:=f0 q1;have N:zu4:=by show yZ+40<cLine;lia
  show cP l1 G;show cP l2 B;have l3:=p7 P;obtain⟨hj,l,d⟩:=EN.mp e4
  have o:∀m (f:m<c.toArray.size),QdT X.K R h r c.toArray[m]=eqW (S[m]'(by rw[Nr]at f;lia)) r:=by
   intro m f;rw[Nr]at f;obtain⟨t,g⟩:∃t,T[m]?=sO t:=⟨T[m]'(Ni (Ni f (cL l2)) (cL l1)),Nj _⟩
   show iJ v2 L D G g;show iJ u2 M E B L;obtain⟨b,hb,eb⟩:=(Ze P).2 m t g;have eu:c.toArray[m]=u2:=by have:=M;rw[Nj f]at this;show j8
   have ez:S[m]' bR=b:=by have:=hb;rw[Nj bR]at this;show j8
   rw[eu,ez];exact Qbq I p D E eb
  obtain⟨ob,n,Y,Z,ab,hd⟩:=p1;obtain⟨cls,dd,data,sl⟩:=ob;simp only at Z hd;subst Z hd;have i:j<c.toArray.size:=zK5
  refine IV Iw (gN Y) PySem.F.entry_list_index (PySem.F.args_list_index_2 _ _)
   (list_indexAt ad c.toArray n dd sl u (QdT X.K R h r) j i ?_ ?_ ?_) ⟨Y,λz J=>Yq I p N ry ru e2 G B P z (bZ J),?_⟩
  ·have:(sizeLine:Nat)<2^62:=d5
   have aa:j<2^62:=aQ
   lia
  ·rw[o j i];exact l
  ·intro m f O;rw[o m f];simpa using d m O
  ·exact⟨aC j,H,hG,f9,k R H _ bV p l8⟩
 ·cases e
inductive TabIs:zH6->zE9->Prop where
 |nil:TabIs [] []
 |cons {e:DictEntry} {x:Str} {i:Int} {t t':Tok} {es:zH6} {tab:zE9} (hk:e.key=.str x t) (hv:e.val=.int i t') (r:TabIs es tab):TabIs i1 ((x,i)::tab)
structure GTab(w:World)(K:Ng)(mg:eK)(x:Str)(tab:zE9):Prop where
 ex:∃(a:Addr) (es:zH6) (n:Nat),mg x=sO (aD a)/\lD a=sO ⟨sJ,nO,.dict es.toArray n,#[]⟩/\Ybc w.params es/\xK/\TabIs es tab
theorem Qpi{K:Ng}{x:Str}{c:Addr}{n:Nat}(X:A4)(G:uP b)(a:AM=sO (sO (aD c)))
  (l:lD c=sO ⟨sJ,nO,.dict es.toArray n,#[]⟩) (k:Ybc w.params es) (s:(zg9 c)=false) (t:TabIs es tab):GTab w K b x tab:=
 ⟨c,es,n,BZ,l,k,s,t⟩
theorem QjP(a b:Int)(h:MH):wEq (jF a) (jF b) h=M6 a b:=jj8
theorem QlF(a b:Int)(h:MH):wNe (jF a) (jF b) h=sO (.bl (!(a==b)),h):=by unfold wNe;simp[drf,eqW]
theorem Qjv(a b:Str)(h:MH):wEq (.str a) (.str b) h=M6 a b:=jj8
theorem Ko(e:mi σ h=sO (items,src,h1))(a:JX items src b body items σ h1=r):Ve mi b body σ h=r:=by
 unfold Ve;rw[e];exact a
theorem Qde(lo:Int)(n:Nat):(QL lo n).length=n:=by unfold QL;simp
noncomputable def QoO(lo c:Int)(n:Nat):It:=⟨λi _=>i<n,λi H x a=>a=H/\x=.int (lo+i*c),λi _=>n<=i⟩
theorem Qd1{K:Ng}(it:Addr)(lo c:Int)(n:Nat):Turn P w K J (QoO lo c n) [it] it (λi h=>IsRangeIter h it (lo+wL*c) (gU-wL) c) where
 mem:=aP
 obj:=λi h st b d=>by
  have e:b=it:=cN d
  subst e
  exact⟨_,st,λv z=>by
   show ji6 C⟩
 keep:=λi h j st k=>k it aB _ st
 item:=by
  intro X p hw q m i a s A H E I g st l;subst p hw q;obtain⟨y,f1,f2,x,u,r⟩:=g it aB;have W:=Walks.range (prog:=X.prog) (w:=X.w) (mN m) it lo c n;refine W.item i s _ _ l st λv j tk F f D=>?_;show aN t F;have I1:zx3 a A H s j:=I.turned (λb o d e=>D b o (bZ d) e) y f1 x u r;exact⟨_,rfl,Qdc (s:={ s with heap:=j,toks:=tk }) (n:="range_iterator") f rfl rfl aE ⟨.int (lo+i*c),H,I1,qC,gD,f,vD d g⟩⟩
 done:=by
  intro X p hw q m i a s A H E I g st l;subst p hw q;obtain⟨y,f1,f2,x,u,r⟩:=g it aB;exact OJ (mN m) st (by have:n<=i:=l;lia) λj G=>⟨rfl,I.turned (t':=s.toks) (yK d G) y f1 x u r⟩
 self:=jn3
theorem Qa0(d:c≠0):0<=Builtin.Range.rangeSize a b c:=by
 unfold Builtin.Range.rangeSize;split
 ·split
  ·have:0<=(b-a-1)/c:=Int.ediv_nonneg aH aH;omega
  ·exact DM _
 ·split
  ·have:0<=(a-b-1)/(-c):=Int.ediv_nonneg aH aH;omega
  ·exact DM _
section
variable{X:Cx}{tg:Expr}
theorem Qll{σ:L2.St}{H:Hp}{lo d c:Int}{tk:Nat}(I:cI f σ)(g:c≠0)(h1:Builtin.Range.small lo d c=true)
  (q:R (QoO lo c Py) H):wpAny bU X.A (pyIter d8) (PIE X f σ tg R) E { s with heap:=zO1,toks:=tk }:=by
 refine wpAny_pyIter_range (IsRange.new ..) h1 ?_;have I1:Inv X f σ H { s with heap:=zO1,toks:=tk }:=I.kept rY
 refine⟨zk5,[zk5],_,_,H,rfl,
  I1.kept (t':=tk) rY,Qd1 _ lo c Py,?_,bG b h,q⟩
 ·have j:lo+pV*c=lo:=aP
  have i:((Py:Nat):Int)-pV=Builtin.Range.rangeSize lo d c:=by
   have:=Qa0 (a:=lo) (b:=d) g;lia
  show IsRangeIter _ _ (lo+pV*c) (((Py:Nat):Int)-pV) c;rw[j,i];exact dF
 ·have e:b=zk5:=cN h
  subst e;exact I1.fpOk c8 (I1.hok.fresh c8)
noncomputable def QqN(d:TA):TI:=λa H R=>d a H λb e=>∃i j c:Int,b=[aC i,aC j,aC c]/\(c≠0/\zS3)/\R (QoO i c zZ3) e
theorem QgJ(D:Bl)(C:B0)(E:PA X C7 v)(B:starEach C7 X.env=[fM a,fM b,fM d]:=by rfl)(l:TN b d=[fM b,fM d]:=by rfl) :
  PI X tg (.Call AN C7 [] pos) (QqN v):=by
 show dU g o R;refine Call_ (VS I D C boot_range (Eb (thn (sL E g o) (aM G L u)) (by rw[B,l]) (by rw[l];rfl)));show c7 F M I1 x m u;obtain⟨i,j,c,e,⟨m,A,z⟩,q⟩:=m;subst e;cases x with
 | cons r f=>
  cases f with
  | cons y f=>
   cases f with
   |cons n f=>
    cases f;show aN t r;show aN J y;show aN w n;exact call_range_3 m (Qll I1 m z q) (.inl (OM A))
#print "-"
noncomputable def J8(lo c:Int)(n:Nat):aI:=(List.range n).map λ wL=>W.int (lo+fQ*c)
section
variable{K:Ng}{R:Rn}
theorem QgC{lo c:Int}:ItOk K R (QoO lo c n) (J8 lo c n) nO where
 go:=λi w d h H _ _ _ e=>by
  have:=bX e;show i<n;simpa[J8]using this
 yld:=λi w d h H v o e f _ b g=>by
  show sB g;unfold J8 at b;rw[Nq]at b;show hV j a m b;rw[Dr (by have:=bX a;show j8)]at a;show kR a m;exact⟨d,qK,f,Rw.int _⟩
 stop:=λi d h H _ _ _ l=>by
  show n<=i;simpa[J8]using l
#print "-"
noncomputable def Qi7(ms:MA):MI:=λa h=>(ms a h).bind λp=>match p.1 with
 |[aC i,aC j,aC c]=>if c≠0/\zS3 then sO (J8 i c zZ3,nO,p.2)else nO
 |_=>nO
section
variable{X:Cx}{tg a b d:Expr}{ms:MA}{p pos:Pos}
theorem Qjo(I:Bl)(G:B0)(L:PMA X C7 ms)(F:starEach C7 X.env=[fM a,fM b,fM d]:=by rfl)(m:TN b d=[fM b,fM d]:=by rfl):PMI X tg (.Call AN C7 [] pos) (Qi7 ms):=
 UN (QgJ I G L F m) λP H C s=>by
  obtain⟨R,g,h,items,z,U,A,st,e,k⟩:=s;show dD u M N f e;refine⟨R,g,h,u,M,A,st,N,qO O Q t l⟩;split at f
  ·rename_i i j c r;show yP r;split at f
   ·show g6 J f;show zr4 y E q;show i3 q T x D o;show i3 o S w B n;show iD n;rw[E.int_eq,D.int_eq,B.int_eq];exact⟨i,j,c,rfl,J,k R1 O _ t l QgC⟩
   ·cases f
  ·cases f
#print "-"
noncomputable def Wc(kvs:dM W)(k:Key):bY:=(kvs.find? (jQ a k)).map (·.2)
noncomputable def QaY(kvs:dM W)(k:Key)(v:W):dM W:=
 if(kvs.any (jQ a k))=true then kvs.map (λa=>AC a v)else kvs++[(k,v)]
noncomputable def Wm:W->Option Key
 |aC i=>sO (iQ i)
 |c4 x=>sO (.inr x)
 |_=>nO
section
variable{K:Ng}{R:Rn}
noncomputable abbrev DicR(K:Ng)(R:Rn):dM W->dM V->Prop:=Paired λp q=>ju1
theorem Xn(r:fI)(e:Wm w=sO k):v=kV k:=by
 cases w with
 |int i=>cases e;exact r.int_eq
 |str x=>cases e;exact r.str_eq
 |_=>cases e
theorem KQ{kvs:dM W}{kx:dM V}(d:yI):(Wc kvs k=nO/\Qbn kx k=nO)\/∃w v,Wc kvs k=sO w/\Qbn kx k=sO v/\fI:=by
 induction d with
 |nil=>exact .inl gD
 |@cons p q ps b h t a=>
  show wE p
  ·exact .inr ⟨p.2,q.2,by simp[Wc,N9,e],by simp[Qbn,N9,<-h.1,e],h.2⟩
  ·simpa[Wc,Qbn,N9,e,<-h.1]using a
theorem QlU{kvs:dM W}{kx:dM V}(d:yI):(kvs.any (jQ a k))=kx.any (jQ a k):=by
 induction d with
 |nil=>rfl
 |cons h t b=>rw[D0,D0,b,h.1]
theorem Qcv(r:fI):∀{kvs:dM W} {kx:dM V},yI->DicR K R (kvs.map (λc=>AC c w)) (kx.map (λc=>AC c v))
 |_,_,.nil=>.nil
 |_,_,zt5=>by
  rw[ND,ND];refine .cons ?_ (Qcv r t)
  show wE p
  ·rw[bH e,if_pos (h.1▸e)];exact⟨h.1,r⟩
  ·rw[bQ e,if_neg (h.1▸e)];exact h
theorem QbT(d:yI)(r:fI):DicR K R (QaY kvs k w) (Qbd kx k v):=by
 unfold QaY Qbd;rw[QlU d];split
 ·exact Qcv r d
 ·exact OP d (A5 r)
theorem Rh.dicAt(q:eG)(r:Rw K R (aD n) v)(e:h[n]?=sO Bw) :
  n<R.N/\v=.ref iA/\∃kx,H iA=sO (.dK kx)/\yI:=by
 show dW r;exact⟨r.1,r.2,nN q e⟩
#print "-"
noncomputable def QeM:ME:=λ_ h=>sO (eX,h++BO)
noncomputable def Wb(h:MH):W->Option (List (Key×W))
 |aF n=>match h[n]? with|some Bw=>sO kvs|_=>nO
 |_=>nO
theorem VV(e:Wb h a=sO kvs):∃n,a=aF n/\h[n]?=sO Bw:=by
 cases a with
 |ref n=>
  simp only[Wb]at e;split at e
  ·show lE c b e;exact⟨n,rfl,b⟩
  ·cases e
 |_=>cases e
noncomputable def Qcl(a b:W)(h:MH):bF:=(Wb h a).bind λc=>(Wm b).bind λk=>(Wc c k).map λv=>(v,h)
noncomputable def YZ(neg:Bool)(b a:W)(h:MH):bF:=(Wb h a).bind λc=>(Wm b).map λk=>(.bl (if neg then !(Wc c k).isSome else(Wc c k).isSome),h)
noncomputable def QaQ(mo mi mv:ME):SM:=λb h=>(mv b h).bind λv=>(mo b v.2).bind λo=>(mi b o.2).bind λi=>(Wm i.1).bind λk=>match o.1 with
 |aF n=>match i.2[n]? with
  |some (.dic a)=>if SD then sO (.nx b (i.2.set n (.dic (QaY a k v.1))))else nO
  |_=>nO
 |_=>nO
section
variable{X:Cx}{o i e a b:Expr}{mo mi mv ma mb:ME}{pos pos':Pos}
theorem QeL:PM X Sz QeM:=ZH QhM λn H Q q=>by
 obtain⟨R,f,h,w,s,j,st,e,k⟩:=q;cases e;intro p l;obtain⟨m,g,d,c⟩:=j.new (mo:=.dic []) (o:=.dK []) l λt r=>zA8
 exact k4 m g d c
theorem Qcu(C:gH)(G:qQ)(F:BM)(D:Qby b:=by intro _ _;rfl):PM X (yQ a b) (Qn Qcl ma mb):=
 ZH (QkQ (NT (El aE _) C) G F D) λU H Q q=>V7 P6 λx H1 s=>V7 s λy T l=>by
  obtain⟨R,h,a,b,w,h',d,r,p,e,k⟩:=l;unfold Qcl at e;show dJ t P O e;show dJ u N M O;show eD v c L M;show uT E P;obtain⟨_,I,Z,B,S⟩:=d.dicAt r E;have J:=Xn p N;subst J
  rcases Ac u S with z|⟨Y,m,j,g,f⟩
  ·rw[z.1]at c;cases c
  ·show bK j c;exact⟨_,m,I,by rw[<-g];exact DGet.k B,k R T _ bV d f⟩
theorem GX(D:gH):OpR X T6 (F2 X.K Me):=by
 intro g s S H x y v u Q I r q p;obtain⟨R,h,a,b,w,h',f,B,t,e,k⟩:=p;unfold YZ at e;show dJ d N M e;show eD c L J M;show uT E N;obtain⟨_,F,j,C,O⟩:=f.dicAt t E;have G:=Xn B L;subst G F;show lQ u q;refine Qsz (NT (El aE _) D) I (DGet.k (k:=c) C) r λZ P=>⟨.bl T7,H,P,rfl,?_⟩
 have:(Wc d c).isSome=T7:=by
  rcases Ac c O with z|⟨U,Y,m,l,T⟩
  ·rw[z.1,z.2];rfl
  ·rw[m,l];rfl
 rw[<-this];exact k R H _ bV f i9
theorem XJ(D:gH):OpR X zx8 (F2 X.K BE):=by
 intro g s S H x y v u Q I r q p;obtain⟨R,h,a,b,w,h',f,B,t,e,k⟩:=p;unfold YZ at e;show dJ d N M e;show eD c L J M;show uT E N;obtain⟨_,F,j,C,O⟩:=f.dicAt t E;have G:=Xn B L;subst G F;show lQ u q;refine Ql4 (NT (El aE _) D) I (DGet.k (k:=c) C) r λZ P=>⟨.bl (! T7),H,P,rfl,?_⟩
 have:(Wc d c).isSome=T7:=by
  rcases Ac c O with z|⟨U,Y,m,l,T⟩
  ·rw[z.1,z.2];rfl
  ·rw[m,l];rfl
 rw[<-this];exact k R H _ bV f i9
theorem Qlb{K:Ng}(q:tS K (QaQ mo mi mv) D σ H):Qoq (tI K mo) (tI K mi) (tI K mv) D σ H:=by
 obtain⟨R,d,h,r,G,s,e,k⟩:=q;show dD v B e1 Z e;obtain⟨⟨ob,A⟩,Y,U⟩:=dH Z;show dD J N T S U;obtain⟨kk,Q,c⟩:=dH S;refine⟨R,d,h,v,B,G,s,e1,λR1 H1 x m t F=>⟨R1,d,B,ob,A,t,s.mono m,Y,λR2 H2 y l p E=>⟨R2,d,A,J,N,p,s.mono (dX m l),T,λR3 H3 z j f C=>?_⟩⟩⟩;show rS c
 ·show P7 n c
  ·show vZ I L c
   ·show g6 g c;obtain⟨u,P,kx,M,w⟩:=f.dicAt (Rw.mono j _ _ E) L;have O:=Xn C Q;subst O;refine⟨_,_,P,DPut.k M (by rw[<-Ef w];exact g),?_⟩;exact k R3 _ σ (iG m l j) (f.put u ⟨_,rfl,QbT w (Rw.mono (dX l j) _ _ F)⟩) (s.mono (iG m l j))
   ·cases c
  ·cases c
 ·cases c
theorem QcW(c:gH)(f:BN)(g:zi7)(h:zi8)(d:BB:=by rfl):PMS X Pz (QaQ mo mi mv):=
 X4 (QlC (NT (El aE _) c) f g h (show zl2 from K6 d)) λ_ _ _=>Qlb
#print "-"
theorem QhA(c:yH)(a:qL=vS h2):jf8=vS h2:=by
 rw[JX,nZ,c,Nk,a,Nk]
theorem Wh(P:Do)(Q:W->MH->Prop):∀(r:aI) (n:Nat) (σ:MSt) (h:MH),P n σ h ->
  (∀(j:Nat) (w:W),zf2->∀σ h,za0->∃σ1,yH/\((∃σ2 h2,qL=gP σ2 h2/\T0)\/∃v h2,qL=vS h2/\Q v h2)) ->
  (∃a h',Rx=gP a h'/\zx9)\/∃v h',Rx=vS h'/\Q v h':=by
 intro r
 induction r with
 |nil=>
  intro n σ h c _;exact .inl ⟨σ,h,Wg,c⟩
 | cons w r i=>
  intro n σ h c e;obtain⟨σ1,f,⟨σ2,h2,d,g⟩|⟨v,h2,d,q⟩⟩:=e 0 w rfl σ h c
  ·have:=i (n+1) σ2 h2 g λj x l σ h c=>by
    have:=e (j+1) x (bZ l) σ h (Cw j c);show Pm
   rw[QaI f d,NQ,zn9];exact this
  ·exact .inr ⟨v,h2,QhA f d,q⟩
theorem QcT(xs:cE a)(x:a):atI (xs++[x]) (-1)=sO x:=by
 unfold atI ixN;rw[if_neg aE,if_pos sC,Nk];have:((-1:Int)+((xs++[x]).length:Nat)).toNat=xs.length:=by simp;lia
 rw[this];simp
theorem QiT(d:mv σ h=d7 v h1)(e:mo σ h1=sO (aF n,h1))(ei:mi σ h1=d7 i h1)(c:Wm i=sO k)(a:h1[n]?=sO Bw)(b:Sg):QaQ mo mi mv σ h=sO (.nx σ (h1.set n (.dic (QaY kvs k v)))):=by
 unfold QaQ;rw[d,Nk];simp only;rw[e,Nk];simp only;rw[ei,Nk];simp only;rw[c,Nk];simp only[a];rw[bH b]
theorem KE{lo c:Int}(e:(J8 lo c n)[j]?=sO w):j<n/\w=.int (lo+fK*c):=by
 unfold J8 at e;rw[Nq]at e;show s9 i d e;show P4 a b d;rw[D3]at a;rw[List.getElem_range]at b;subst b;exact⟨a,rfl⟩
theorem QiE{k:Nat}(a:k<1000000):Builtin.Range.small (d6-1) (-1) (-1)=true/\(Builtin.Range.rangeSize (d6-1) (-1) (-1)).toNat=k:=by
 have e:Builtin.Range.rangeSize (d6-1) (-1) (-1)=k:=by
  unfold Builtin.Range.rangeSize;rw[if_neg aE]
  by_cases z:k=0
  ·subst z;rfl
  ·rw[if_pos aH];simp
 refine⟨?_,vE e⟩;unfold Builtin.Range.small;rw[e];simp only[Builtin.Range.rangeFitsLong,N5,DW,decide_eq_true_eq,beq_iff_eq];exact⟨aQ,.inr aE⟩
theorem QpJ{c b a:ME}{k:Nat}(e:j3 c=sO (.int (d6-1),h))(j:j3 b=sO (.int (-1),h))(i:j3 a=sO (.int (-1),h))(d:k<1000000):Qi7 (Qc c (Qc b (Qc a Ql))) σ h=sO (J8 (d6-1) (-1) k,nO,h):=by
 unfold Qi7;rw[Qge e (Qge j (Qge i Qqa)),Nk];obtain⟨g,f⟩:=QiE d;show zv8;rw[if_pos ⟨d5,d5,g⟩,f]
mutual
noncomputable def pur:tP
 |fD=>JC ws
 |eV=>JC ws
 |nK=>JC ws
 |A3=>false
 |_=>true
noncomputable def JC:aI->Bool
 |[]=>true
 |w::ws=>pur w&&JC ws
end
noncomputable def Wo:MO->Bool
 |eV=>JC ws
 |.dic kvs=>JC (kvs.map (·.2))
 |.dct kvs=>JC (kvs.map (·.2))
 |.ins _ _=>false
mutual
noncomputable def th(f:Nat->bY):W->bY
 |fD=>(ths f ws).map .tup
 |eV=>(ths f ws).map .lst
 |nK=>(ths f ws).map .frz
 |aF j=>f j
 |w=>sO w
noncomputable def ths(f:Nat->bY):aI->HV W
 |[]=>sO []
 |w::ws=>(th f w).bind λx=>(ths f ws).map (x::·)
end
noncomputable def thO(f:Nat->bY):MO->Option MO
 |eV=>(ths f ws).map .lst
 |.dic kvs=>(ths f (kvs.map (·.2))).map λa=>.dic ((kvs.map (·.1)).zip a)
 |.dct kvs=>(ths f (kvs.map (·.2))).map λa=>.dct ((kvs.map (·.1)).zip a)
 |.ins _ _=>nO
noncomputable def res(kp:Nat->qJ)(g:MH):Nat->Nat->bY
 |0,j=>(kp j).map .ref
 | d+1,j=>match kp j with
  |dY n=>sO (aD n)
  |none=>match g[j]? with
   |some i8=>(ths (res kp g d) ws).map .lst
   |_=>nO
noncomputable def W4(ns a:aZ)(N j:Nat):qJ:=match ns[j]? with
 |dY n=>sO n
 |none=>(a.findIdx? (·==j)).map (N+·)
noncomputable def X5:Nat->aI->Option (aI×aZ)
 |_,[]=>sO ([],[])
 |k,aF n::ws=>(X5 (k+1) ws).map λp=>(aF k::p.1,n::p.2)
 |k,w::ws=>if pur w then(X5 k ws).map λp=>(w::p.1,p.2)else nO
noncomputable def Q0:aZ->kL->MH->MH
 |n::ns,o::os,h=>Q0 ns os (h.set n o)
 |_,_,h=>h
noncomputable def Ub(h:MH)(n:Nat):Option MO:=match h[n]? with|dY o=>if Wo o then sO o else nO|none=>nO
noncomputable def QgL(a:W->aZ)(m:FM)(as:aI)(ns:aZ)(h:MH):bF:=
 if ns.Nodup then(Z8 Ch ns).bind λc=>(m as c).bind λp=>
  if(a p.1).Nodup/\(∀j∈a p.1,ns.length<=j)then
   (th zo5 p.1).bind λw=>
   (Z8 (λj=>(p.2[j]?).bind (thO zo5)) zt6).bind λos=>
   (Z8 (λj=>(p.2[j]?).bind (thO zo5)) (a p.1)).map λb=>
   (w,Q0 ns os h++b)
  else nO
 else nO
noncomputable def box(c:W->aZ)(m:FM):FM:=λb h=>(X5 0 b).bind λa=>QgL c m a.1 a.2 h
section
variable{K:Ng}{R R':Rn}
mutual
theorem Rw.pur_mono(b:xE):∀(w:W) (v:V),mE->fI->mO R' w
 |.non,_,_,h=>by show kA
 |.bl _,_,_,h=>by show kA
 |nP,_,_,h=>by show kA
 |lM,_,_,h=>by show kA
 |.ty _,_,_,h=>by show kA
 |fD,_,p,h=>by
  show Ao e d c;exact⟨a,xs,e,Jx b d,zm1⟩
 |eV,_,p,h=>by
  show Ao e d c;exact⟨a,xs,e,b a _ d,zm1⟩
 |nK,_,p,h=>by
  show Ao e d c;exact⟨a,xs,e,Jb b d,zm1⟩
 |aF n,_,p,h=>jl9
theorem Rws.pur_mono(d:xE):∀(ws:aI) (c:bA),vL->iW c->Rws K R' ws c
 |[],_,_,h=>by show IN;exact h
 |w::ws,_,p,h=>by
  show IN;show c7 v b g f e h;show yE p;exact⟨v,b,g,Rw.pur_mono d w v p.1 f,Rws.pur_mono d ws b p.2 e⟩
end
mutual
theorem Rw.th_ok(c:xE)(l:∀j v w,Rw K R (aD j) v->f j=sO w->mO R' w):∀(w:W) (v:V) (w':W),th f w=sO w'->fI->mO R' w'
 |.non,_,_,e,h=>by show Hs;show kA
 |.bl _,_,_,e,h=>by show Hs;show kA
 |nP,_,_,e,h=>by show Hs;show kA
 |lM,_,_,e,h=>by show Hs;show kA
 |.ty _,_,_,e,h=>by show Hs;show kA
 |fD,_,_,e,h=>by
  show zl4;show c7 a b i g d h;exact⟨a,b,i,Jx c g,zr6⟩
 |eV,_,_,e,h=>by
  show zl4;show c7 a b i g d h;exact⟨a,b,i,c a _ g,zr6⟩
 |nK,_,_,e,h=>by
  show zl4;show c7 a b i g d h;exact⟨a,b,i,Jb c g,zr6⟩
 |aF n,v,w',e,h=>by unfold th at e;exact l n v w' h e
theorem Rws.th_ok(i:xE)(g:∀j v w,Rw K R (aD j) v->f j=sO w->mO R' w):∀(ws:aI) (d:bA) (b:aI),ths f ws=sO b->iW d->Rws K R' b d
 |[],_,_,e,h=>by unfold ths at e;cases e;show IN;exact h
 |w::ws,_,_,e,h=>by
  unfold ths at e;show dJ x h1 h2 e;show hV l n m h2;subst m;unfold Rws at h;show c7 v c r q p h;subst r;exact Rws.cons (Rw.th_ok i g w v x h1 q) (Rws.th_ok i g ws c l n p)
end
theorem DicR.vals:∀{kvs:dM W} {kx:dM V},Paired PQ kvs kx->Rws K R (kvs.map (·.2)) (kx.map (·.2))/\kvs.map (·.1)=kx.map (·.1):=by
 intro kvs kx p
 induction p with
 |nil=>exact⟨Rws.nil,rfl⟩
 |cons h t a=>exact⟨Rws.cons h.2 a.1,by rw[ND,ND,a.2,h.1]⟩
theorem DicR.zip{ks:List Key}{kx:dM V}{us:aI}(e:ks=kx.map (·.1))(h:Rws K R us (kx.map (·.2))):Paired PQ (ks.zip us) kx:=by
 subst e
 induction kx generalizing us with
 |nil=>exact .nil
 | cons q kx a=>
  rw[ND]at h;cases us with
  |nil=>show MV h;cases h
  |cons u us=>
   show z8 h;show c7 v f d c b h;cases d;exact .cons (A5 c) (a b)
theorem QcD:∀(n:Nat) (w:W) (k:Tr),UO n w=sO k->mE
 |0,_,_,e=>by simp[UO]at e
 | n+1,w,k,e=>by
  cases w with
  | tup ws=>
   show Mx;obtain⟨ks,b,f⟩:=kS e;unfold pur;clear e f
   induction ws generalizing ks with
   |nil=>rfl
   |cons x ws d=>
    rw[Ir]at b;show dJ c h i b;obtain⟨a,g,_⟩:=dH i;unfold JC;rw[QcD n x c h,d a g];rfl
  |lst ws=>simp[UO]at e
  |frz ws=>simp[UO]at e
  |ref j=>simp[UO]at e
  |_=>rfl
theorem Qe8(e:zf6):mE:=by
 cases w with
 |tup a=>exact QcD 8 _ k e
 |_=>cases e
theorem DctR.vals:∀{kvs:kH} {kx:gB},Paired (λp q=>Pj) kvs kx->Rws K R (kvs.map (·.2)) (kx.map (·.2.2))/\Paired zU1 (kvs.map (·.1)) kx:=by
 intro kvs kx p
 induction p with
 |nil=>exact⟨Rws.nil,.nil⟩
 |cons h t a=>exact⟨Rws.cons h.2.2 a.1,.cons ⟨h.1,h.2.1⟩ a.2⟩
theorem DctR.zip{ks:aI}{kx:gB}{us:aI}(p:Paired zU1 ks kx)(h:Rws K R us (kx.map (·.2.2))):Paired (λp q=>Pj) (ks.zip us) kx:=by
 induction p generalizing us with
 |nil=>exact .nil
 | cons e t a=>
  rw[ND]at h;cases us with
  |nil=>show MV h;cases h
  |cons u us=>
   show z8 h;show c7 v f d c b h;cases d;exact .cons ⟨e.1,e.2,c⟩ (a b)
theorem Qc6(m:xE)(s:∀j v w,Rw K R (aD j) v->f j=sO w->mO R' w)(e:thO f o=sO y)(h:C3 R):Ro K R' y u:=by
 cases o with
 |lst x=>
  unfold thO at e;show hV c g d e;subst d;show fT t l i h;exact⟨t,l,Rws.th_ok m s x t c g i⟩
 |dic r=>
  unfold thO at e;show hV c g d e;subst d;show fT n l i h;obtain⟨a,b⟩:=DicR.vals i;exact⟨n,l,DicR.zip b jj9⟩
 |dct r=>
  unfold thO at e;show hV c g d e;subst d;show fT n l i h;obtain⟨a,b⟩:=DctR.vals i;exact⟨n,l,DctR.zip (Paired.mapP b λp q z=>⟨Rw.pur_mono m _ _ (Qe8 z.2) z.1,z.2⟩) jj9⟩
 |ins C fs=>cases e
theorem QbB(f:xE)(p:oI)(h:C3 R):C3 R':=by
 cases o with
 |lst l=>
  show fT j d e h;exact⟨j,d,Rws.pur_mono f l j p e⟩
 | dic c=>
  show fT g d e h;show zR1
  induction e with
  |nil=>exact λ_=>.nil
  |cons h t i=>
   intro b;rw[ND]at b;show yE b;exact .cons ⟨h.1,Rw.pur_mono f _ _ b.1 h.2⟩ (i b.2)
 | dct c=>
  show fT g d e h;show zR1
  induction e with
  |nil=>exact λ_=>.nil
  |cons h t i=>
   intro b;rw[ND]at b;show yE b;exact .cons ⟨Rw.pur_mono f _ _ (Qe8 h.2.1) h.1,h.2.1,Rw.pur_mono f _ _ b.1 h.2.2⟩ (i b.2)
 |ins C fs=>cases p
theorem QlE(z:∀a o,R.F a=sO o->R0.F a=sO o)(f:∀(i n:Nat),all[i]?=sO n->i<R0.N/\R0.ρ i=p4):∀{ws:aI} {c:bA} {pre:aZ} {as:aI} {ns:aZ},X5 pre.length ws=BC->all=pre++ns->iW c->Rws K R0 as c:=by
 intro ws
 induction ws with
 |nil=>
  intro c pre as ns e d h;unfold X5 at e;cases e;show iD h;show tT
 | cons w ws r=>
  intro c pre as ns e d h;show i3 h v x g s
  by_cases hw:∃n,w=aF n
  ·obtain⟨n,rfl⟩:=hw;unfold X5 at e;show pB q b l j e;refine Rws.cons ?_ (r (pre:=pre++[n]) (ns:=b) (by rw[NK];exact l) (zB d) s);obtain⟨u,t⟩:=f pre.length n (zB d);show BW g;exact⟨u,by rw[t];exact g.2⟩
  ·have m:(if pur w then(X5 pre.length ws).map λp=>(w::p.1,p.2)else nO)=BC:=by
    rw[<-e];cases w<;>first|(exact absurd f9 hw)|(conv=>rhs;unfold X5)
   split at m
   ·rename_i y;show pB q b l j m;exact Rws.cons (Rw.pur_mono z w v y g) (r l d s)
   ·cases m
theorem Vk:∀(ns:aZ) (os:kL) (h:MH),(Q0 ns os h).length=h.length
 |[],_,h=>Hf
 |_::_,[],h=>Hf
 |n::ns,o::os,h=>by unfold Q0;rw[Vk ns os,DV]
theorem KU:∀(ns:aZ) (os:kL) (h:MH) (n:Nat),n∉ns->(Q0 ns os h)[n]?=h[n]?
 |[],_,h,n,_=>Hf
 |_::_,[],h,n,_=>Hf
 |m::ns,o::os,h,n,a=>by
  unfold Q0;rw[KU ns os _ n (λz=>a (NA _ z)),EJ (λz=>yF a z)]
theorem UM:∀(ns:aZ) (os:kL) (h:MH) (i n:Nat),ns.Nodup->ns.length=os.length->ns[i]?=sO n->n<h.length->(Q0 ns os h)[n]?=os[i]?
 |[],_,h,i,n,_,_,e,_=>gL e
 |m::ns,[],h,i,n,_,a,_,_=>gL a
 |m::ns,o::os,h,0,n,hd,a,e,b=>by
  show hX e;unfold Q0;rw[KU ns os _ m (ES.mp hd).1,EX b];rfl
 |m::ns,o::os,h,i+1,n,hd,a,e,b=>by
  unfold Q0;rw[UM ns os (h.set m o) i n (ES.mp hd).2 (bZ a) (bZ e) (by rw[DV];exact b)];simp
#print "-"
#print "-Mi"
namespace Mi
open L2
theorem Qht:∀{ws:aI} {k:Nat} {as:aI} {ns:aZ},X5 k ws=BC->as.length=ws.length:=by
  intro ws
  induction ws with
  | nil=>
    intro k as ns e;unfold X5 at e;cases e;rfl
  | cons w ws f=>
    intro k as ns e
    cases w<;>unfold X5 at e<;>first
      | (show pB d a c b e
         simp[f c])
      | (split at e
         · show pB d a c b e;simp[f c]
         · cases e)
theorem QaK{a:aZ}(e:a.findIdx? (·==j)=sO i):a[i]?=sO j:=by
 rw[EN]at e;obtain⟨h,b,_⟩:=e;rw[Nj h];simp at b;rw[b]
theorem QaD{js:aZ}(e:js.findIdx? (·==j)=nO):j∉js:=by
 rw[D7]at e;intro z;have:=e j z;show iZ
theorem Qd2(e:Ub h n=sO o):h[n]?=sO o/\oI:=by
 unfold Ub at e;split at e
 ·show vZ c b e
  ·show g6 a e;show k5 b a
  ·cases e
 ·cases e
theorem QaB{a:aZ}(h:a.Nodup){i b j:Nat}(e:a[i]?=sO j)(c:a[b]?=sO j):i=b:=
 (List.getElem?_inj (bX e) h).mp (e.trans c.symm)
section
variable{K:Ng}
open Classical in
theorem Qn6(q:spM K n (box fr m) vs H Q E):spM K n m vs H Q E:=by
 obtain⟨R,ws,h,wx,h2,hl,L,ax,e,k⟩:=q;unfold box at e;obtain⟨⟨as,A⟩,e1,e2⟩:=dH e;unfold QgL at e2;split at e2
 case isFalse=>cases e2
 rename_i hd;show dJ h0 e3 e4 e2;show dD w g e5 e6 e4;show rS e6
 case isFalse=>cases e6
 rename_i hj;obtain⟨a4,a3⟩:=hj;obtain⟨wy,e7,e8⟩:=dH e6;obtain⟨os,e9,a8⟩:=dH e8;obtain⟨us,am,a7⟩:=kS a8;cases a7;generalize a9:fr w=js at *
 have X:∀(i x:Nat),Mm->x<R.N/\∃o,h[x]?=sO o/\h0[i]?=sO o/\oI:=λi x l=>by
  obtain⟨o,D,t⟩:=(Ze e3).2 i x l;obtain⟨z3,z4⟩:=Qd2 t;exact⟨RR L z3,o,z3,D,z4⟩
 have af:∀x,x∈A->∃i:Nat,Mm:=λx l=>NN.mp l
 let R0:Rn:={ ρ:=λi=>R.ρ (A.getD i 0),N:=A.length,F:=R.F,G:=λa=>if∃x,x<R.N/\x∉A/\A6=a then H a else R.G a }
 have T:∀(i x:Nat),Mm->i<R0.N/\R0.ρ i=A6:=λi x l=>by
  refine⟨bX l,?_⟩;show R.ρ (A.getD i 0)=_;rw[D1,l];rfl
 have ah:∀i:Nat,i<A.length->∃x,Mm:=λi O=>⟨A[i],Nj O⟩
 have al:∀x,x<R.N->x∉A->R0.G MY=H MY:=λx l hn=>if_pos ⟨x,l,hn,rfl⟩
 have ak:∀a o,R.G a=sO o->R0.G a=sO o:=λa o z=>by
  show zl8;split
  ·exact L.gsub a o z
  ·exact z
 have ay:Rh K R0 h0 H:=by
  refine⟨p7 e3,L.sub,bG i O,λi j O hj ee=>?_,aM i o O,HW,bG i O,HW⟩
  ·show zb9 O;rw[zd2];exact L.sep x zd3
  ·show zb9 O;obtain⟨y,U⟩:=ah j hj;rw[zd2,(T j y U).2]at ee;have:=L.inj x y zd3 (X j y U).1 ee;subst this;exact QaB hd l U
  ·have a6:i<A.length:=by rw[p7 e3];exact(Nd.mp O).1
   show zb9 a6;obtain⟨_,o',D,t,z3⟩:=X i x l;show bK O t;rw[zd2];exact QbB (R:=R) (R':=R0) (λ_ _ z=>z) z3 (L.obj x o D)
  ·have J:zl8:=ha;split at J
   ·exact J
   ·exact L.gsub a o J
  ·show zb9 O;rw[zd2];show(if∃y,y<R.N/\y∉A/\R.ρ y=A6 then H MY else R.G MY)=nO;rw[if_neg]
   ·exact L.gsep x zd3
   ·rintro⟨y,U,az,ey⟩
    have:=L.inj y x U zd3 ey;subst this;exact az (j7 i l)
  ·have J:zl8:=ha;split at J
   ·rename_i l;obtain⟨x,l,_,rfl⟩:=l;exact L.sep x l
   ·exact L.gf a o J
 refine⟨R0,as,h0,w,g,(Qht e1).trans hl,ay,QlE (R:=R) (R0:=R0) (pre:=[]) (λ_ _ z=>z) T e1 rfl ax,e5,qO H1 v x1 s⟩;have ab:R1.G=R0.G:=x1.g
 have aa:∀(i x:Nat),Mm->i<R1.N/\R1.ρ i=A6:=λi x l=>by
  obtain⟨D,t⟩:=T i x l;exact⟨Ni D x1.n,(x1.ρ i D).trans t⟩
 have Y:∀(i j:Nat),js[i]?=sO j->zc1/\j<R1.N/\∃o u,us[i]?=sO u/\g[j]?=sO o/\thO (res (W4 A js h.length) g 3) o=sO u:=λi j p=>by
  obtain⟨u,D,t⟩:=(Ze am).2 i j p;show dJ o z3 z4 t;exact⟨a3 j (j7 i p),RR s z3,o,u,D,z3,z4⟩
 have P:∀x,x<R.N->∀j,zc1->j<R1.N->R1.ρ j≠A6:=λx l j hj aq ee=>by
  by_cases hm:x∈A
  ·show zn5;have:=s.inj j i aq D (ee.trans t.symm);have:=bX O;lia
  ·have z:=s.gsep j aq;rw[ab,ee,al x l hm]at z;obtain⟨_,u,_,hu⟩:=L.there l;rw[hu]at z;cases z
 let R2:Rn:={ ρ:=λn=>if n<R.N then p4 else R1.ρ (js.getD (n-R.N) 0),N:=zK6,F:=λa=>match R1.F a with|dY o=>sO o|none=>if zn3 then H1 a else nO,G:=R.G }
 have C:∀x,x<R.N->R2.ρ x=A6:=λx l=>bH l
 have I:∀(i j:Nat),js[i]?=sO j->R2.ρ (R.N+i)=R1.ρ j:=λi j p=>by
  show(if R.N+i<R.N then R.ρ (R.N+i)else R1.ρ (js.getD (R.N+i-R.N) 0))=_;rw[if_neg (NZ.mpr cJ),Ou,D1,p];rfl
 have f1:∀a o,R1.F a=sO o->R2.F a=sO o:=λa o z=>by
  show zk3=sO o;rw[z]
 have Z:∀a,R1.F a=nO->(¬zn3)->R2.F a=nO:=λa D t=>by
  show zk3=nO;rw[D];exact bQ t
 have ar:∀j,zc1->j<R1.N->j∉js->R2.F BS=H1 BS:=λj a b c=>by
  show(match R1.F BS with|dY o=>sO o|none=>if∃j',A.length<=j'/\j'<R1.N/\j'∉js/\R1.ρ j'=R1.ρ j then H1 BS else nO)=_;rw[s.sep j b];exact if_pos ⟨j,a,b,c,rfl⟩
 have aj:kT R2:=⟨Nu _ _,λx l=>C x l,λa o z=>f1 a o (x1.f a o z),rfl⟩
 have B:∀x,x<R2.N->x<R.N\/∃i j:Nat,x=R.N+i/\js[i]?=sO j:=λx l=>by
  have ai:x<zK6:=l
  by_cases z:x<R.N
  ·exact eH z
  ·exact .inr ⟨x-R.N,js[x-R.N]'(L5 (hP z) ai),aQ,Nj (L5 (hP z) ai)⟩
 have hr:∀d j v w,Rw K R1 (aD j) v->res (W4 A js h.length) g d j=sO w->mO R2 w:=by
  have ae:∀j v x,Rw K R1 (aD j) v->W4 A js h.length j=sO x->Rw K R2 (aD x) v:=λj v x r z=>by
   show BW r;show uZ W4 z
   ·rename_i y U;cases(z);obtain⟨D,t⟩:=aa j x U;have an:=(X j x U).1;exact⟨Ni an aj.n,by rw[C x an,<-t];exact r.2⟩
   ·show hV i D t z;have p:=QaK D;subst t;rw[<-L.len,I i j p];exact⟨El (bX p) _,r.2⟩
  intro d
  induction d with
  |zero=>
   intro j v w r z;unfold res at z;show hV x D t z;subst t;exact ae j v x r D
  | succ d ih=>
   intro j v w r z;unfold res at z;split at z
   ·show lE x l z;exact ae j v x r l
   ·show P7 M z
    ·rename_i av hg;obtain⟨aw,D,t⟩:=kS z;subst t;obtain⟨xs,o1,o2⟩:=s.obj j _ hg;have ao:j<R1.N/\v=.ref BS:=by show dW r;exact r
     show uZ W4 M
     ·cases M
     ·rename_i a2;have ap:j∉js:=QaD (bZ M);unfold Rw;refine⟨R1.ρ j,xs,ao.2,?_,Rws.th_ok f1 ih av xs aw D o2⟩;rw[ar j (L6.mp a2) ao.1 ap];exact o1
    ·cases z
 refine k R2 H1 v aj ⟨?_,HW,bG x l,λx y l U ee=>?_,aM x o l,HW,bG x l,HW⟩ (Rw.th_ok f1 (hr 3) w v _ e7 rv)
 ·show zK6=_;rw[NK,Vk,<-(Ze am).1,L.len]
 ·have J:zk3=sO o:=ha;split at J
  ·show lE o' a1 J;exact s.sub a _ a1
  ·split at J
   ·exact J
   ·cases J
 ·rcases B x l with l|⟨i,j,rfl,p⟩
  ·rw[C x l];refine Z _ ?_ (λ⟨j,a,b,_,c⟩=>P x l j a b c)
   by_cases hm:x∈A
   ·show zn5;rw[<-t];exact s.sep i D
   ·obtain⟨_,u,_,hu⟩:=L.there l;exact s.gf _ u (by rw[ab,al x l hm];exact hu)
  ·obtain⟨D,t,_⟩:=Y i j p;rw[I i j p];refine Z _ (s.sep j t) (λz0=>?_);show c7 j' a b c d z0;have:=s.inj j' j b t d;subst this;exact c (j7 i p)
 ·rcases B x l with l|⟨i,j,rfl,p⟩<;>rcases B y U with U|⟨i',j',rfl,S⟩
  ·rw[C x l,C y U]at ee;exact L.inj x y l U ee
  ·rw[C x l,I i' j' S]at ee;obtain⟨D,t,_⟩:=Y i' j' S;exact absurd ee.symm (P x l j' D t)
  ·rw[C y U,I i j p]at ee;obtain⟨D,t,_⟩:=Y i j p;exact absurd ee (P y U j D t)
  ·rw[I i j p,I i' j' S]at ee;obtain⟨_,t,_⟩:=Y i j p;obtain⟨_,au,_⟩:=Y i' j' S;have:=s.inj j j' t au ee;subst this;rw[QaB a4 p S]
 ·have ai:x<R2.N:=by
   have:=bX l;rw[NK,Vk,<-(Ze am).1,<-L.len]at this;exact this
  rcases B x ai with hn|⟨i,j,rfl,p⟩
  ·rw[NJ (by rw[Vk,<-L.len];exact hn)]at l;rw[C x hn]
   by_cases hm:x∈A
   ·show zn5;have a5:=bX O;rw[UM A os h i x hd (by rw[<-(Ze e9).1,D3]) O (by rw[<-L.len];exact hn)]at l;obtain⟨u,y1,y2⟩:=(Ze e9).2 i i (by rw[Dr a5]);show bK l y1;show dJ o' y3 y4 y2;rw[<-t];exact Qc6 f1 (hr 3) y4 (s.obj i o' y3)
   ·rw[KU A os h x hm]at l;obtain⟨_,u,_,hu⟩:=L.there hn;have a0:H1 MY=sO u:=s.gsub _ u (by rw[ab,al x hn hm];exact hu);have:=L.obj x o l;rw[hu]at this;rw[a0];exact this.mono aj
  ·obtain⟨D,t,o',u,y1,y2,y3⟩:=Y i j p;rw[Dw (by rw[Vk,<-L.len];exact Nu _ _),Vk,<-L.len,Ou,y1]at l;cases l;rw[I i j p];exact Qc6 f1 (hr 3) y3 (s.obj j o' y2)
 ·exact s.gsub a o (by rw[ab];exact ak a o ha)
 ·rcases B x l with l|⟨i,j,rfl,p⟩
  ·rw[C x l];exact L.gsep x l
  ·rw[I i j p];obtain⟨_,t,_⟩:=Y i j p;cases z:R2.G BS with
   |none=>rfl
   |some u=>
    have z3:=s.gsep j t;rw[ab,ak _ u z]at z3;cases z3
 ·have hg:R1.G a=sO o:=by rw[ab];exact ak a o ha
  refine Z a (s.gf a o hg) (λz0=>?_);obtain⟨j,_,b,_,d⟩:=z0;have z3:=s.gsep j b;rw[d,hg]at z3;cases z3
theorem Cal.box(b:W->aZ)(C:Cal P w K a base k x ps g):Cal P w K a base k x ps (Mi.box b g):=
 C.imp λ_ _ _ _ q=>Qn6 q
#print "-"
noncomputable def frN:W->aZ:=λ_=>[]
noncomputable def frR:W->aZ
 |aF j=>[j]
 |_=>[]
noncomputable def Qa2:aZ->aI->MSt->Option MSt
 |[],[],σ=>sO σ
 |i::is,w::ws,σ=>Qa2 is ws (σ.set i tV)
 |_,_,_=>nO
noncomputable def ZQ(is:aZ):MG:=λw a _=>match w with|.tup b=>Qa2 is b a|_=>nO
noncomputable def QdO:aZ->TGs
 |[]=>QrB
 |i::is=>QnE (QfC i) (QdO is)
theorem Jv:PGs X [] (QdO []):=Ql2
theorem QE(hN:X.N.Nodup)(b:l7)(a:nX)(h:PGs X es (QdO is))(c:nQ)
  : PGs X (.Name x pos::es) (QdO (i::is)):=Qh4 (QdY hN b a c) h
theorem QcO{K:Ng}:∀{is:aZ} {ws:aI} {xs:bA} {a σ1:MSt} {σ:L2.St},Qa2 is ws a=sO σ1->iF->iP R a σ->(∀b,iP R σ1 b->C b H)->QdO is xs σ H C
 |[],[],xs,a,σ1,σ,e,r,s,k=>by
  cases e;show MV r;exact⟨r,k σ s⟩
 |i::is,w::ws,xs,a,σ1,σ,e,r,s,k=>by
  show i3 r v c f d;exact⟨v,c,rfl,QcO (is:=is) e d (s.set f) k⟩
 |[],_::_,_,_,_,_,e,_,_,_=>jC e
 |_::_,[],_,_,_,_,e,_,_,_=>jC e
theorem Qaq:∀{is:aZ} {ws:aI} {σ σ1:MSt},Qa2 is ws σ=sO σ1->ws.length=is.length
 |[],[],_,_,_=>rfl
 |i::is,w::ws,σ,σ1,e=>by
  have:=Qaq (is:=is) (ws:=ws) e;simp[this]
 |[],_::_,_,_,e=>jC e
 |_::_,[],_,_,e=>jC e
theorem Ju{is:aZ}(o:fH)(h:PGs X es (QdO is))(n:ji5=is.length)(m:(assignEach es X.env).findIdx? (·.1)=nO):PMG X (zb0 k) (ZQ is):=
 Qje (QmL o h n m) λv p H C g=>by
  obtain⟨R,d,h,w,f,b,st,rw,e,q⟩:=g;unfold ZQ at e;split at e
  ·rename_i r;obtain⟨ad,i,rfl,l,c⟩:=b.tupAt rw;exact⟨ad,i,rfl,l,by show u3 c;exact Qaq e,QcO e c st λa j=>q R H a bV b j⟩
  ·cases e
noncomputable def Qqg(g:MG)(m:ME):SM:=λb h=>(m b h).bind λp=>(g p.1 b p.2).map λa=>.nx a p.2
theorem QkY(t:zP)(q:PMG X b g)(p:jc1=sS)(hw:jd0)(h1:(assignEach [b] X.env).map (·.2)=[assign b X.env]) :
  PMS X (.Assign [b] e pos) (Qqg g m):=X4 (Qjc t q p hw h1) <|by
 rintro D C H ⟨R,a,h,r,o,s,e,k⟩
 show dD w h1 z y e;show eD c x u y;exact⟨R,a,h,w,h1,o,s,z,λR1 E v j f rv=>⟨R1,a,h1,w,c,f,s.mono j,rv,x,λA B d l i n=>k A B d (dX j l) i n⟩⟩
noncomputable def Ql6(ws:aI)(h:MH):bF:=match ws with
 |[aC i,aC j]=>sO (.int zt3,h)
 |_=>nO
noncomputable def QdU(ws:aI)(h:MH):bF:=match ws with
 |[aC i,aC j]=>sO (.int zt4,h)
 |_=>nO
section
variable{X:Cx}
theorem Qbg(j:fH):CallR X (.builtin "max") (Fs X.K Ql6):=by
 intro a s b H c d Q I r q;refine Qfl j a s b H c d Q I r ?_;obtain⟨R,h,l,w,m,f,rw,e,k⟩:=q;unfold Ql6 at e;split at e
 ·show jr6;exact⟨_,_,jr7,k R H _ bV f l8⟩
 ·cases e
theorem K4(j:fH):CallR X (.builtin "min") (Fs X.K QdU):=by
 intro a s b H c d Q I r q;refine Qe4 j a s b H c d Q I r ?_;obtain⟨R,h,l,w,m,f,rw,e,k⟩:=q;unfold QdU at e;split at e
 ·show jr6;exact⟨_,_,jr7,k R H _ bV f l8⟩
 ·cases e
noncomputable def rep(x:Str)(n:Int):Str:=⟨((List.replicate n.toNat x.cps.toList).flatten).toArray⟩
theorem Qfb:∀(l:List (Array Nat)) (a:mH),l.foldl (·++·) a=(a.toList++(l.map Array.toList).flatten).toArray:=by
 intro l
 induction l with
 |nil=>
  intro a;simp
 |cons b l c=>
  intro a;rw[OC,c];simp
theorem Qjb(x:Str)(n:Int):(⟨(List.replicate n.toNat x.cps).foldl (·++·) #[]⟩:Str)=rep x n:=by
 unfold rep;rw[Qfb];simp
theorem Qh5(x:Str)(h:n<1):Str.empty=rep x n:=by
 unfold rep;rw[show n.toNat=0 by lia];rfl
theorem QjD(x:Str):x=rep x 1:=by
 unfold rep;simp
theorem Qlm(n:Int)(h:(x.length==0)=true):x=rep x n:=by
 unfold rep
 have:x.cps=#[]:=by
  have:x.cps.size=0:=by simpa[Str.length]using h
  exact Array.eq_empty_of_size_eq_zero this
 obtain⟨c⟩:=x;show iZ;subst this;simp
noncomputable def Yo(a b:W)(h:MH):bF:=match a,b with
 |c4 x,aC n=>if n<1000/\-1000<n/\x.length<1000 then sO (.str (rep x n),h)else nO
 |a,b=>Qoo a b h
theorem QkW:OpR X SN (λx y H Q=>∃z n,x=c4 z/\y=aC n/\(n<1000/\-1000<n/\z.length<1000)/\Q (.str (rep z n)) H):=by
  intro b s e H x y v u Q I i h g;obtain⟨z,n,p,o,⟨C,B,A⟩,q⟩:=g;subst p o;show aN t i;show aN w h
  have j:z.length*n.toNat<1000000:=by
    calc z.length*n.toNat<=999*999:=Lo aH aH
      _<1000000:=d5
  refine PySem.P.mul_str (by rw[decide_eq_false aH,decide_eq_false aH];rfl) (λa _=>?_) (λa _=>?_) ?_
  · have:(2^63-1)/n >= 1000:=by
      rw[ge_iff_le,Int.le_ediv_iff_mul_le aH];lia
    lia
  · unfold Builtin.Str.tooLong
    exact decide_eq_false (by show¬_;have:zA5:=d5
                              lia)
  · have done:∀(y:Str) (tk:Tok) (d:Shared),y=rep z n->hQ b e H d->EP X b e Q (.str y tk) d:=λy tk d m r=>⟨c4 y,H,r,f9,nA m q⟩
    split
    · rename_i f;exact⟨d5,done _ _ _ (Qh5 z f) zE⟩
    · split
      · rename_i f c;rw[DW]at c;refine done _ _ _ ?_ I
        show i7 c
        · have:n=1:=cN c
          subst this;exact QjD z
        · exact Qlm n c
      · refine⟨?_,done _ _ _ (Qjb z n) zE⟩;rw[Qjb]
        have l:(rep z n).length=n.toNat*z.length:=by
          unfold rep Str.length;simp
        rw[l,Nat.mul_comm];have:zA5:=d5
        exact Nw (Ni (NT j aE) zE4)
theorem KF:OpR X SN (F2 X.K Yo):=by
 intro c s d H x y v u Q I g f q;obtain⟨R,h,a,b,w,n,i,l,j,e,k⟩:=q;unfold Yo at e;split at e
 ·split at e
  ·show g6 m e;exact QkW c s d H x y v u Q I g f ⟨_,_,l.str_eq,j.int_eq,m,k R H _ bV i ze2⟩
  ·cases e
 ·exact Qlw c s d H x y v u Q I g f ⟨R,h,a,b,w,n,i,l,j,e,k⟩
#print "-"
section
variable{X:Cx}{elt tg iter c:Expr}{scope:Scope}{pos pos' spos:Pos}{cl:yA}{Nb:aO}{cp:lT}{mi:MI}{b:MG}{mt:MT}{me m:ME}{fin:aI->MH->bF}{i:Nat}{x:Str}{e:Expr}
theorem QjX{K:Ng}(q:tS K (Zi i m) D σ H):tI K m σ H λv f=>QfC i v σ f D.nx:=by
 obtain⟨R,a,h,r,j,s,e,k⟩:=q;show pB w l o n e;exact⟨R,a,h,w,l,j,s,o,zZ2 f g⟩
theorem Qbk(hN:X.N.Nodup)(n:l7)(v:nX)(o:nQ)(A:QdH X.K fin)(E:fH)(B:uD)(y:SZ)(z:∀a d C j f,PMG (k9 a d j f) tg b)
  (D:∀a d C j f,PM (k9 a d j f) elt me) (w:u5) (l:swapsWith zm6 (sO (.Name x pos')) spos.line X.env=pure true) :
  PMS X (.Assign [.Name x pos'] zm6 spos) (Zi i jr4):=
 X4 (Qlu (g:=tIG X.K b) (te:=tI X.K me) (tt:=tIT X.K YF) hN n v o l E B y z (λa d C j f p s F H Q I q=>wpAny_tests_nil (by
  obtain⟨R,r,h,t,L,u,st,e,k⟩:=q;cases e
  exact⟨H,I,k R H bV u⟩)) D w) λ_ _ _ q=>QbK A (QjX q)
#print "-"
set_option checkBinderAnnotations false in
noncomputable def ob[f:b->j2 a](x:j2 b):j2 a:=x.bind f
set_option checkBinderAnnotations false in
noncomputable def om[f:b->a](x:j2 b):j2 a:=x.map f
@[simp]theorem QkR:@ob _ _ f (sO a)=f a:=aV
@[simp]theorem QpZ:@om _ _ f (sO a)=sO (f a):=aV
noncomputable def Qqj(b:SM):MF->zI
 |.nx σ h=>j3 b
 |r=>sO r
section
variable{σ σ':MSt}{h h':MH}{a b:SM}{m ma mb mc:ME}{t u:MT}{ms:MA}{w x y:W}{ws:aI}
@[simp]theorem QpH:Qqj b (.nx σ h)=j3 b:=aV
@[simp]theorem Qqy:Qqj b zh0=sO zh0:=aV
@[simp]theorem QtC:QG a b σ h=@ob _ _ (Qqj b) (a σ h):=by
 unfold QG;refine congrArg (λc=>@ob _ _ c (a σ h)) (funext (k3 r));cases r<;>rfl
@[simp]theorem QrN:QR σ h=gP σ h:=aV
@[simp]theorem Qtr:Zw m σ h=@om _ _ (λp=>.rt p.1 p.2) oM:=aV
noncomputable def onB(a b:SM)(σ:MSt)(p:Bool×MH):zI:=if p.1=true then a σ p.2 else b σ p.2
@[simp]theorem Qpt(c:Bool):onB a b σ (c,h)=if wT then j3 a else j3 b:=aV
@[simp]theorem Qtf:Ja t a b σ h=@ob _ _ (onB a b σ) BT:=by
 unfold Ja;show Pg
@[simp]theorem Qq7:Vi m σ h=@om _ _ (λp=>.nx σ p.2) oM:=aV
@[simp 500]theorem Qtw:Zi i m σ h=@om _ _ (λp=>S6 σ p) oM:=aV
@[simp]theorem Qs6:Ql7 i f m σ h=@ob _ _ (λx=>@ob _ _ (λp=>@om _ _ (λq=>S6 σ q) (f x.1 p.1 p.2)) oM) (Qg i σ h):=by
 unfold Ql7 Qg
 rcases σ[i]? with _|_|x<;>rfl
@[simp 1100]theorem Qse{v0 v1 x:bY}{r:MSt}:List.set (v0::v1::r) 1 x=v0::x::r:=aV
@[simp 1100]theorem QsH{v0 v1 c x:bY}{r:MSt}:List.set (v0::v1::c::r) 2 x=v0::v1::x::r:=aV
@[simp 1100]theorem Qsv{v0 v1 c d x:bY}{r:MSt}:List.set (v0::v1::c::d::r) 3 x=v0::v1::c::x::r:=aV
@[simp 1100]theorem QtG{v0 v1 d c v4 x:bY}{r:MSt}:List.set (v0::v1::d::c::v4::r) 4 x=v0::v1::d::c::x::r:=aV
@[simp 1100]theorem QtD{v0 v1 d c v4 e x:bY}{r:MSt}:List.set (v0::v1::d::c::v4::e::r) 5 x=v0::v1::d::c::v4::x::r:=aV
@[simp 1100]theorem Qtq{v0 v1 e d v4 c v6 x:bY}{r:MSt}:List.set (v0::v1::e::d::v4::c::v6::r) 6 x=v0::v1::e::d::v4::c::x::r:=aV
@[simp 1100]theorem QsS{v0 v1 e d v4 c v6 f x:bY}{r:MSt}:List.set (v0::v1::e::d::v4::c::v6::f::r) 7 x=v0::v1::e::d::v4::c::v6::x::r:=aV
@[simp 1100]theorem Qty{v0 v1 f e v4 d v6 c g x:bY}{r:MSt}:List.set (v0::v1::f::e::v4::d::v6::c::g::r) 8 x=v0::v1::f::e::v4::d::v6::c::x::r:=aV
@[simp 1100]theorem Qs0{v0 v1 g f v4 e v6 d c i x:bY}{r:MSt}:List.set (v0::v1::g::f::v4::e::v6::d::c::i::r) 9 x=v0::v1::g::f::v4::e::v6::d::c::x::r:=aV
@[simp]theorem QsA:Qqg g m σ h=@ob _ _ (λp=>@om _ _ (λσ1=>.nx σ1 p.2) (g p.1 σ p.2)) oM:=aV
@[simp]theorem QnK:Qg 0 (sO o::r) h=d7 o h:=aV
@[simp]theorem Qq5:Qg 1 (v0::tR) h=d7 o h:=aV
@[simp]theorem QrT:Qg 2 (v0::v1::tR) h=d7 o h:=aV
@[simp]theorem QrO:Qg 3 (v0::v1::c::tR) h=d7 o h:=aV
@[simp]theorem Qrv:Qg 4 (v0::v1::d::c::tR) h=d7 o h:=aV
@[simp]theorem Qrz:Qg 5 (v0::v1::d::c::v4::tR) h=d7 o h:=aV
@[simp]theorem Qr2:Qg 6 (v0::v1::e::d::v4::c::tR) h=d7 o h:=aV
@[simp]theorem Qr8:Qg 7 (v0::v1::e::d::v4::c::v6::tR) h=d7 o h:=aV
@[simp]theorem Qq8:Qg 8 (v0::v1::f::e::v4::d::v6::c::tR) h=d7 o h:=aV
@[simp]theorem Qrd:Qg 9 (v0::v1::g::f::v4::e::v6::d::c::tR) h=d7 o h:=aV
@[simp 400]theorem Qr7:Qg (i+1) (o::r) h=Qg i r h:=by
 unfold Qg;rw[Dm]
@[simp]theorem s_c:mC w σ h=d7 w h:=aV
@[simp 500]theorem Qsp:Qn f ma mb σ h=@ob _ _ (λp=>@ob _ _ (λq=>TV) (mb σ p.2)) (ma σ h):=aV
@[simp]theorem QtU:mUn f ma σ h=@ob _ _ (λp=>f p.1 p.2) (ma σ h):=aV
@[simp]theorem QtA:mFn f ms σ h=@ob _ _ (λp=>f p.1 p.2) (ms σ h):=aV
@[simp]theorem QrK:Qv n g ms σ h=@ob _ _ (λp=>if p.1.length=n then g p.1 p.2 else nO) (ms σ h):=aV
@[simp]theorem Qo9:Ql σ h=sO ([],h):=aV
@[simp 600]theorem Qrt:Qn f ma wP σ h=@ob _ _ (λp=>f p.1 w p.2) (ma σ h):=aV
@[simp 600]theorem QpC:Qc wP ms σ h=@ob _ _ (λq=>sO (w::q.1,q.2)) (ms σ h):=aV
@[simp 610]theorem QpX:Qc m Ql σ h=@ob _ _ (λp=>sO ([p.1],p.2)) oM:=aV
@[simp 620]theorem QoN:Qc wP Ql σ h=sO ([w],h):=aV
@[simp 600]theorem QrJ:Zi i wP σ h=sO (.nx (σ.set i tV) h):=aV
@[simp 500]theorem QnO:Qc m ms σ h=@ob _ _ (λp=>@ob _ _ (λq=>sO (p.1::q.1,q.2)) (ms σ p.2)) oM:=aV
noncomputable def asB(p:W×MH):AQ:=match p.1 with|.bl b=>sO (b,p.2)|_=>nO
@[simp]theorem QrC(c:Bool):asB (.bl c,h)=d7 c h:=aV
@[simp 500]theorem QqR:Qy m σ h=@ob _ _ asB oM:=aV
@[simp]theorem Qq3:Qbj t σ h=@om _ _ (λp=>(!p.1,p.2)) BT:=by
 unfold Qbj
 first|rfl|(cases j3 t<;>rfl)
noncomputable def Qog(u:MT)(σ:MSt)(p:Bool×MH):AQ:=if p.1=true then u σ p.2 else sO (false,p.2)
noncomputable def Qr4(u:MT)(σ:MSt)(p:Bool×MH):AQ:=if p.1=true then sO (true,p.2)else u σ p.2
@[simp]theorem QnY(c:Bool):Qog u σ (c,h)=if wT then j3 u else sO (false,h):=aV
@[simp]theorem QoI(c:Bool):Qr4 u σ (c,h)=if wT then Md else j3 u:=aV
@[simp 500]theorem QcJ:Vy t u σ h=@ob _ _ (Qog u σ) BT:=by
 unfold Vy;show Pg
@[simp 500]theorem QsL:Qbp t u σ h=@ob _ _ (Qr4 u σ) BT:=by
 unfold Qbp;show Pg
noncomputable def Qrr(ma mb:ME)(σ:MSt)(p:Bool×MH):bF:=if p.1=true then ma σ p.2 else mb σ p.2
@[simp]theorem QoU(c:Bool):Qrr ma mb σ (c,h)=if wT then ma σ h else mb σ h:=aV
@[simp]theorem QtS:mIf t ma mb σ h=@ob _ _ (Qrr ma mb σ) BT:=by
 unfold mIf;show Pg
@[simp]theorem Qsm:Qae m σ h=@ob _ _ (λp=>@om _ _ (λb=>(b,p.2)) (QfL p.2 p.1)) oM:=by
 unfold Qae;rfl
@[simp]theorem QtV:mMt T f m ms σ h=@ob _ _ (λp=>if tyW p.2 T p.1=true then@ob _ _ (λq=>TV) (ms σ p.2)else nO) oM:=aV
#print "-"
section
variable{h:MH}{i j:Int}{x y:Str}{ws us:aI}{w:W}
@[simp]theorem QsM:JE cT gQ h=SH:=aV
@[simp]theorem QsD:Qag cT gQ h=sO (.int (i-j),h):=aV
@[simp]theorem QtN:wLt cT gQ h=sO (Bg i j,h):=aV
@[simp]theorem QtP:wLe cT gQ h=sO (B8 i j,h):=aV
@[simp]theorem QtH:wGt cT gQ h=sO (Bg j i,h):=aV
@[simp]theorem QtM:wGe cT gQ h=sO (B8 j i,h):=aV
@[simp]theorem Qsc:Yt cT h=sO (.int (-i),h):=aV
@[simp]theorem QrD:QfA cT gQ h=SH:=aV
@[simp]theorem Qs5(c:0<j):QgA cT gQ h=zC1:=Qkh c
@[simp]theorem Qtb(c:0<j)(a:HQ):QlD cT gQ h=zC0:=QlY (fF c a)
@[simp]theorem QqV(c:zv6<j)(a:j<18446744073709551616):Yo cT gQ h=SR:=QeX (.inr (fF c a))
@[simp]theorem Qrp(c:zv6<i)(a:i<18446744073709551616):Yo cT gQ h=SR:=QeX (.inl (fF c a))
@[simp]theorem Qss(c:0<=j)(b:j<=1000000)(a:i.natAbs<18446744073709551616):Qjw cT gQ h=sO (SU,h):=Qlj ⟨c,b,a⟩
theorem QfX(c:j<1000/\-1000<j/\x.length<1000):Yo iX gQ h=sO (.str (rep x j),h):=bH c
@[simp]theorem QqD:Ql6 [aC i,aC j] h=sO (.int zt3,h):=aV
@[simp]theorem Qp4:QdU [aC i,aC j] h=sO (.int zt4,h):=aV
@[simp]theorem Qs4:Zs ws h=if AH then sO (fD,h)else nO:=aV
@[simp]theorem Qs3:V4 ws h=if AH then sO (eV,h)else nO:=aV
@[simp]theorem Qtv:Wr ws h=if AH then sO (eX,h++[eV])else nO:=aV
@[simp]theorem Qsf:wIx sX cT h=PY:=aV
@[simp]theorem Qsa:wIx i8 cT h=PY:=aV
@[simp]theorem Qsb:wIx (.frz ws) cT h=PY:=aV
@[simp]theorem Qsn:wIx (aD n) cT h=@ob _ _ (λ(ws:aI)=>PY) (match h[n]? with|some i8=>sO ws|_=>nO):=aV
@[simp]theorem Qq4:JB [fD] h=sO AL:=aV
@[simp]theorem Qrl:JB [eV] h=sO AL:=aV
@[simp]theorem QnN:JB [nK] h=sO AL:=aV
@[simp]theorem QrZ:JB [aF n] h=@om _ _ (λ(ws:aI)=>AL) (match h[n]? with|some i8=>sO ws|_=>nO):=aV
theorem Q6{xs:cE a}{n:Nat}:atI xs gU=xs[n]?:=by
 cases e:xs[n]? with
 |some x=>exact Qks e
 |none=>
  unfold atI ixN;have:xs.length<=n:=L6.mp e;rw[if_pos aH];rw[if_neg aH];rfl
@[simp]theorem QsK:atI xs 0=xs[0]?:=Q6 (n:=0)
@[simp]theorem QtW:atI xs 1=xs[1]?:=Q6 (n:=1)
@[simp]theorem QqY{a:Type}{xs:cE a}{y:a}:atI (xs++[y]) (-1)=sO y:=QcT xs y
@[simp]theorem Qte:ixN (n+1) 0=sO 0:=by unfold ixN;rw[if_pos aE,if_pos aH];rfl
@[simp]theorem Qso:ixN (n+2) 1=sO 1:=by unfold ixN;rw[if_pos aE,if_pos aH];rfl
@[simp]theorem QsJ:ixN (n+3) 2=sO 2:=by unfold ixN;rw[if_pos aE,if_pos aH];rfl
theorem QjH(a:k<n):ixN n d6=sO k:=by unfold ixN;rw[if_pos aH,if_pos aH];simp
@[simp]theorem Qrg:ixN (n+1) (-1)=sO n:=by unfold ixN;rw[if_neg aE,if_pos aH];congr 1;lia
noncomputable def putAt(o i v:W)(σ:MSt)(h:MH):zI:=match o,i with
 |aF n,aC k=>match h[n]? with
  |some nF=>@om _ _ (λj=>.nx σ (h.set n (.lst (a.set j v)))) (ixN a.length k)
  |_=>nO
 |_,_=>nO
@[simp]theorem Qtl:Qf6 mo mi mv σ h=@ob _ _ (λv=>@ob _ _ (λo=>@ob _ _ (λi=>putAt o.1 i.1 v.1 σ i.2) (mi σ o.2)) (mo σ v.2)) (mv σ h):=aV
@[simp]theorem QqO:putAt (aD n) cT v σ h=match h[n]? with
  |some iK=>@om _ _ (λj=>.nx σ (h.set n (.lst (xs.set j v)))) (ixN xs.length i)
  |_=>nO:=aV
@[simp]theorem Qr6{w:W}:Ql8 (sO zh0)=d7 w h:=aV
@[simp]theorem Qrc:Ql8 (sO (.nx σ h))=zd0:=aV
@[simp]theorem QoJ{n:Nat}{w:W}:ZD (aD n) [w] h=match h[n]? with|some iK=>if xs.length<sizeLine then sO (.non,h.set n (.lst (xs++[w])))else nO|_=>nO:=aV
@[simp]theorem QoE{n:Nat}{w:W}:WT (aD n) [w] h=match h[n]? with|some iK=>@ob _ _ (λys=>if jh4 then sO (.non,h.set n (.lst (xs++ys)))else nO) (loW h w)|_=>nO:=aV
@[simp]theorem Qsx:loW h i8=sO ws:=aV
@[simp]theorem QsT:QlP (aD n) [] h=match h[n]? with|some iK=>@om _ _ (λw=>(w,h.set n (.lst xs.dropLast))) (xs[xs.length-1]?)|_=>nO:=aV
@[simp]theorem Qtd:tyW h T (aD n)=match h[n]? with|some zT=>MN|zK3=>MP|zK4=>MP|_=>false:=aV
@[simp]theorem Qtk:tyW h T i8=(T=="list"):=aV
@[simp]theorem Qrj:QfL h (aD n)=match h[n]? with|some i8=>AU|some Bw=>sO (!kvs.isEmpty)|_=>nO:=aV
@[simp]theorem QqU:QfL h lF=sO b:=aV
@[simp]theorem Qrs:QfL h sX=AU:=aV
@[simp]theorem QoC:XA [eV] h=sO (fD,h):=aV
@[simp]theorem Qo1:XA [aF n] h=@om _ _ (λ(ws:aI)=>(fD,h)) (match h[n]? with|some i8=>sO ws|_=>nO):=aV
@[simp]theorem QtR:mSl c a b σ h=@ob _ _ (λp=>@ob _ _ (λq=>@ob _ _ (λr=>wSl p.1 q.1 r.1 r.2) (b σ q.2)) (a σ p.2)) (c σ h):=aV
@[simp]theorem QtX:Qa1 σ h=sO (nO,h):=aV
noncomputable def asI(p:W×MH):Option (dS×MH):=match p.1 with|aC i=>sO (sO i,p.2)|_=>nO
@[simp]theorem Qqd:asI (aC i,h)=sO (sO i,h):=aV
@[simp]theorem QtL:Qay m σ h=@ob _ _ asI oM:=aV
@[simp]theorem QsC{lo a:dS}:wSl sX lo a h=sO (.tup TZ,h):=aV
@[simp]theorem Qsd{lo a:dS}:wSl i8 lo a h=sO (.lst TZ,h):=aV
@[simp]theorem Qsh{lo a:dS}:wSl (aD n) lo a h=@om _ _ (λ(ws:aI)=>(.lst TZ,h)) (match h[n]? with|some i8=>sO ws|_=>nO):=aV
@[simp]theorem Qry:JE sX (.tup us) h=if ws.length+us.length<=sizeLine then sO (.tup (ws++us),h)else nO:=aV
@[simp]theorem QrQ:JE iX MS h=zQ0:=aV
@[simp]theorem QtE:wIs a .non h=sO (.bl (Xm a),h):=aV
@[simp]theorem QqP:Kb a .non h=sO (.bl (!Xm a),h):=aV
@[simp]theorem QoB:Xm .non=true:=aV
@[simp]theorem QoF:Xm sX=false:=aV
@[simp]theorem QoW:Xm iX=false:=aV
@[simp]theorem Qtu:QoK [a,.ty T] h=if Qbb T=true then@om _ _ (λk=>(.bl (Wv k T),h)) (Qhq h a)else nO:=aV
@[simp]theorem QtJ:Qhq h lF=sO "bool":=aV
@[simp]theorem QtO:Qbb "bool"=true:=d5
#print "-"
mutual
noncomputable def pln:tP
 |fD=>YK ws
 |eV=>YK ws
 |.frz _=>false
 |A3=>false
 |.ty _=>false
 |_=>true
noncomputable def YK:aI->Bool
 |[]=>true
 |w::ws=>pln w&&YK ws
end
mutual
noncomputable def dep:W->Nat
 |fD=>Qaz ws+1
 |eV=>Qaz ws+1
 |_=>1
noncomputable def Qaz:aI->Nat
 |[]=>0
 |w::ws=>max (dep w) (Qaz ws)
end
mutual
theorem Km(h:MH):∀(w:W) (n:Nat),zf7->dep w<=n->drf h n w=sO w
 |.non,n+1,_,_=>rfl
 |.bl _,n+1,_,_=>rfl
 |nP,n+1,_,_=>rfl
 |lM,n+1,_,_=>rfl
 |fD,n+1,p,d=>by
  show Pa;show Pb;show(Z8 h9 ws).map W.tup=_;rw[KB h ws n p aH];rfl
 |eV,n+1,p,d=>by
  show Pa;show Pb;show(Z8 h9 ws).map W.lst=_;rw[KB h ws n p bR];rfl
 |.frz _,_,p,_=>rJ
 |A3,_,p,_=>rJ
 |.ty _,_,p,_=>rJ
 |.non,0,_,d=>by show Pb;lia
 |.bl _,0,_,d=>RG
 |nP,0,_,d=>RG
 |lM,0,_,d=>RG
 |.tup _,0,_,d=>by show Pb;lia
 |.lst _,0,_,d=>RG
theorem KB(h:MH):∀(ws:aI) (n:Nat),zf9->Qaz ws<=n->Z8 h9 ws=sO ws
 |[],_,_,_=>rfl
 |w::ws,n,p,d=>by
  unfold YK at p;unfold Qaz at d;rw[N5]at p;rw[Z8,Km h w n p.1 (Nn (Nat.le_max_left _ _) d),Nk,KB h ws n p.2 (Nn (Nat.le_max_right _ _) d)];rfl
end
mutual
theorem Qcm:∀(w:W),zf7->eqW w w=true
 |.non,_=>by unfold eqW;rfl
 |.bl _,_=>zz5
 |nP,_=>zz5
 |lM,_=>zz5
 |fD,p=>zV8
 |eV,p=>zV8
 |.frz _,p=>rJ
 |A3,p=>rJ
 |.ty _,p=>rJ
theorem WO:∀(ws:aI),zf9->UT ws ws=true
 |[],_=>S'
 |w::ws,p=>by
  unfold YK at p;rw[N5]at p;unfold UT;rw[Qcm w p.1,WO ws p.2];rfl
end
theorem Qtc(d:zf8)(c:pln b=true)(f:zi9)(e:dep b<=40):wEq a b h=sO (.bl Mv,h):=by
 unfold wEq;rw[Km h a 40 d f,Km h b 40 c e];rfl
theorem Qsr(d:zf8)(c:pln b=true)(f:zi9)(e:dep b<=40):wNe a b h=sO (.bl (!eqW a b),h):=by
 unfold wNe;rw[Km h a 40 d f,Km h b 40 c e];rfl
@[simp]theorem Qo2:wEq cT gQ h=M6 i j:=QjP i j h
@[simp]theorem Qph:wEq iX MS h=M6 x y:=Qjv x y h
@[simp]theorem Qsk:wNe cT gQ h=sO (.bl (!(i==j)),h):=QlF i j h
mutual
theorem WQ:∀(w:W),zf7->mE
 |.non,_=>rfl
 |.bl _,_=>rfl
 |nP,_=>rfl
 |lM,_=>rfl
 |fD,p=>zV9
 |eV,p=>zV9
 |.frz _,p=>rJ
 |A3,p=>rJ
 |.ty _,p=>rJ
theorem Jq:∀(ws:aI),zf9->vL
 |[],_=>rfl
 |w::ws,p=>by
  unfold YK at p;rw[N5]at p;unfold JC;rw[WQ w p.1,Jq ws p.2];rfl
end
mutual
theorem Qa4(f:Nat->bY):∀(w:W),mE->th f w=sO w
 |.non,_=>rfl
 |.bl _,_=>rfl
 |nP,_=>rfl
 |lM,_=>rfl
 |.ty _,_=>rfl
 |fD,p=>zm8
 |eV,p=>zm8
 |nK,p=>zm8
 |A3,p=>jl9
theorem Xe(f:Nat->bY):∀(ws:aI),vL->ths f ws=sO ws
 |[],_=>rfl
 |w::ws,p=>by
  show yE p;unfold ths;rw[Qa4 f w p.1,Xe f ws p.2];rfl
end
theorem QH(b:vL)(e:m ws []=d7 w g)(hw:mE):box frN m ws h=d7 w h:=by
 have d:X5 0 ws=zg0:=by
  generalize 0=k;clear e
  induction ws with
  |nil=>rfl
  |cons a r c=>
   show yE b;have:=c b.2;show zk8
 show zD4 d;rw[if_pos Ez];simp only[Z8,Nk,e,frN,F7,List.range_zero];rw[if_pos ⟨Ez,aP⟩,zg1];simp[Q0]
theorem Kk(b:vL)(s:h[n]?=sO o)(q:oI)(e:m (hJ::ws) [o]=sO (w,j::g))(hw:mE)(i:∃us,j=.lst us/\Mr):box frN m (aF n::ws) h=sO (w,h.set n j):=by
 obtain⟨us,rfl,c⟩:=i
 have p:∀k,X5 k ws=zg0:=by
  clear e
  induction ws with
  |nil=>intro k;rfl
  |cons a r l=>
   intro k;show yE b;have:=l b.2 k;show zk8
 unfold box
 have d:X5 0 (aF n::ws)=sO (hJ::ws,[n]):=by
  unfold X5;rw[p];rfl
 rw[d,Nk];unfold QgL;rw[if_pos aB];have f:Ub h n=sO o:=by unfold Ub;rw[s];simp[q]
 simp only[Z8,f,Nk,N7,e,frN,Ei];rw[if_pos ⟨Ez,aP⟩,zg1];simp[Q0,OD,Z8,thO,Xe _ us c]
theorem WN{os os':kL}(r:BP=BC)(hd:ns.Nodup)(t:D')(e:m as os=sO (w,os'++g))(u:os'.length=ns.length)
  (c:∀o∈os',∃us,o=.lst us/\Mr) (hw:th zo6 w=sO w'):AV=sO (w',Q0 ns os' h):=by
 show zn0 r t;rw[zk6 v];show(th zo6 w).bind _=_;rw[hw,Nk];show(Z8 Ph zt6).bind (λos=>(Z8 Ph []).map λus=>(w',Q0 ns os h++us))=_
 have:Z8 Ph zt6=sO os':=by
  rw[<-u]
  have key:∀(k:Nat) (a:kL),zW2->(∀o∈a,∃us,o=.lst us/\Mr)->Z8 Ph zr9=sO a:=by
   intro k a
   induction a generalizing k with
   |nil=>intro _ _;rfl
   |cons x a n=>
    intro f d;obtain⟨us,q,s⟩:=d x NF;show zp7 l f;rw[l,Nk,n (k+1) (λi o b=>by have:=f (i+1) o (bZ b);show zn4) (jT o p d),q];show((ths _ us).map MO.lst).bind _=_;rw[Xe _ us s];rfl
  rw[IX];exact key 0 os' (λi o b=>by rw[NR,NJ (bX b)];exact b) c
 rw[this];simp[Z8]
@[simp]theorem QlO{os:kL}:Q0 [] os h=h:=Hf
@[simp]theorem QiN{os:kL}:Q0 (n::ns) (o::os) h=Q0 ns os (h.set n o):=by rw[Q0]
theorem GP(e:h[n]?=sO (.lst us))(a:Mr):Ub h n=sO (.lst us):=by unfold Ub;rw[e];simp[Wo,a]
theorem XM(f:W->W)(c:zt7)(a:∃o,Qjl cp σ=o::caps)(d:∀w∈items,me Bi h=oR f)(b:RU) :
  Z4 fin mi cp iN YF me σ h=fin (items.map f) h:=by
 show jh5 c;rw[U2 (p:=λ_=>true) (f:=f) items [] o Bh (λw hw _=>d w hw) (bZ b),Yav.mpr Bh];rfl
theorem QaV{mt:MT}{me:ME}{h:MH}(f:W->W)(p:tP)(d:zt7)(a:∃o,Qjl cp σ=o::caps)(b:∀w∈items,mt Bi h=oR p)(e:∀w∈items,p w=true->me Bi h=oR f)(c:RU) :
  Z4 fin mi cp iN mt me σ h=jr8 p:=by
 show jh5 d;rw[U2 (p:=p) (f:=f) items [] o b e (bZ c)];simp
theorem Va(P:Do):∀(r:aI) (n:Nat) (σ:MSt) (h:MH),P n σ h ->
  (∀(j:Nat) (w:W),zf2->∀σ h,za0->∃σ1,yH/\∃σ2 h2,(qL=gP σ2 h2\/qL=Th)/\T0) ->
  ∃a h',Rx=gP a h'/\zx9:=by
 intro r
 induction r with
 |nil=>
  intro n σ h c _;exact⟨σ,h,Wg,c⟩
 | cons w r i=>
  intro n σ h c e;obtain⟨σ1,o,σ2,h2,d,g⟩:=e 0 w rfl σ h c
  obtain⟨a,h',m,f⟩:=i (n+1) σ2 h2 g λj x l σ h c=>by
   have:=e (j+1) x (bZ l) σ h (Cw j c);show Pm
  refine⟨a,h',?_,by rw[NQ,zn9];exact f⟩;rw[JX,nZ,o,Nk]
  rcases d with d|d<;>rw[d]<;>exact m
theorem QaU(P:Do):∀(n f:Nat) (σ:MSt) (h:MH),n<f->P n σ h ->
  (∀n σ h,P n σ h->(j3 t=sO (false,h)/\n=0)\/(j3 t=Md/\∃m σ2 h2,m<n/\(body σ h=gP σ2 h2\/body σ h=Th)/\P m σ2 h2)) ->
  ∃a h',Zd t body f σ h=gP a h'/\P 0 a h'
 |n,0,_,_,l,_,_=>aQ
 | n,f+1,σ,h,l,d,c=>by
  rcases c n σ h d with⟨e,j⟩|⟨e,m,σ2,h2,p,b,i⟩
  ·subst j;exact⟨σ,h,by rw[Zd,e];rfl,d⟩
  ·obtain⟨a,h',o,g⟩:=QaU P m f σ2 h2 aH i c;refine⟨a,h',?_,g⟩;rw[Zd,e]
   rcases b with b|b<;>simp only[Nk,b]<;>exact o
noncomputable def eqS(y:Str)(p:W×MH):AQ:=@ob _ _ asB (wEq p.1 MS p.2)
noncomputable def eqN(j:Int)(p:W×MH):AQ:=@ob _ _ asB (wEq p.1 gQ p.2)
@[simp 650]theorem QrG:Qy (Qn wEq a (mC MS)) σ h=@ob _ _ (eqS y) (a σ h):=by
 unfold Qy Qn mC eqS ob;cases j3 a<;>rfl
@[simp 650]theorem Qrf:Qy (Qn wEq a (mC gQ)) σ h=@ob _ _ (eqN j) (a σ h):=by
 unfold Qy Qn mC eqN ob;cases j3 a<;>rfl
@[simp]theorem Qqx:eqS y (c4 x,h)=sO (x==y,h):=by unfold eqS;rw[Qph];rfl
@[simp]theorem Qqw:eqN j (aC i,h)=sO (i==j,h):=by unfold eqN;rw[Qo2];rfl
#print "-Mi"
namespace Mi
open L2
noncomputable def Qcq(ws:aI)(h:MH):bF:=match ws with
 |[fD]=>sO (eX,h++[eV])
 |[a]=>(lsW h a).map λws=>(eX,h++[eV])
 |_=>nO
section
variable{X:Cx}
theorem QbU:CallR X rZ (Fs X.K Qcq):=by
 intro d s u H a x Q I r q;refine YH d s u H a x Q I r ?_;obtain⟨R,h,D,w,E,f,rw,e,k⟩:=q;unfold Qcq at e;split at e
 ·show Pr l a m j f;refine⟨ad,a,rfl,k6 m,bG p n⟩;obtain⟨t,g,c,b⟩:=zP0
  exact k4 t g c b
 ·show eD C A z e;show AT l;show lW a m j f l A;refine⟨ad,a,rfl,eH m,bG p n⟩;obtain⟨t,g,c,b⟩:=zP0
  exact k4 t g c b
 ·cases e
#print "-"
theorem Ke{st:lB}:QeT X st zJ:=λa s c H D I q=>by
 obtain⟨R,b,h,r,d,st,e,k⟩:=q;cases e
#print "-Mi"
namespace My
open L2 Mi
noncomputable abbrev Ln:=aO
noncomputable def Zl(l:Ln):W:=.tup (wB l)
noncomputable def JY(xs:aO):W:=.lst Hz
noncomputable abbrev Pt:=Str×eW
noncomputable def Xy(p:Pt):W:=.tup [.str p.1,.tup (p.2.map Zl)]
noncomputable def Zx(p:bM):W:=.tup qF
structure Spt where
 way:d9
 part:Nat
 k:Nat
 head:Bool
noncomputable def Qbo(q:hF):W:=.tup [tZ q,tJ]
noncomputable def QF(s:Spt):W:=.tup zR5
theorem QcC:∀{ws:aI},(∀w∈ws,zf7)->zf9:=by
 intro ws
 induction ws with
 |nil=>
  intro _;exact rfl
 |cons w ws a=>
  intro h;unfold YK;rw[h w NF,a (jT x b h)];rfl
theorem Wp{n:Nat}:∀{ws:aI},(∀w∈ws,dep w<=n)->Qaz ws<=n:=by
 intro ws
 induction ws with
 |nil=>
  intro _;exact NS _
 |cons w ws a=>
  intro h;unfold Qaz;exact Nat.max_le.mpr ⟨h w NF,a (jT x b h)⟩
theorem VZ{f:a->W}{xs:cE a}(h:∀x,pln (f x)=true):YK ze4=true:=QcC λw hw=>by show rQ x;exact h x
theorem QhY{f:a->W}{xs:cE a}(h:∀x,dep (f x)<=n):Qaz ze4<=n:=Wp λw hw=>by show rQ x;exact h x
@[simp]theorem Ya{xs:aO}:YK Hz=true:=VZ dG
theorem Qcj{xs:aO}:Qaz Hz<=1:=QhY λ_=>Nv _
@[simp]theorem QmW{l:Ln}:pln (Zl l)=true:=by unfold Zl pln;exact Ya
@[simp]theorem Qhb{xs:aO}:pln (JY xs)=true:=by unfold JY pln;exact Ya
@[simp]theorem QkA{ls:eW}:YK hW=true:=VZ λ_=>QmW
@[simp]theorem QpV{p:Pt}:pln (Xy p)=true:=by simp[Xy,pln,YK]
@[simp]theorem Qf2{ps:bM}:YK (ps.map Xy)=true:=VZ λ_=>QpV
@[simp]theorem Qqo{ps:bM}:pln (Zx ps)=true:=by unfold Zx pln;exact Qf2
@[simp]theorem QqI{q:hF}:pln (Qbo q)=true:=aV
@[simp]theorem QlJ{a:d9}:YK (a.map Qbo)=true:=VZ λ_=>QqI
@[simp]theorem Qn7{s:Spt}:pln iB=true:=by simp[QF,pln,YK]
@[simp]theorem QlA{a:cD}:YK (a.map QF)=true:=VZ λ_=>Qn7
@[simp]theorem Qs9{l:Ln}:pur (Zl l)=true:=WQ _ QmW
@[simp]theorem QoL{xs:aO}:pur (JY xs)=true:=WQ _ Qhb
@[simp]theorem Qtg{ps:bM}:pur (Zx ps)=true:=WQ _ Qqo
@[simp]theorem Qtx{s:Spt}:pur iB=true:=WQ _ Qn7
@[simp]theorem QoS{xs:aO}:JC Hz=true:=Jq _ Ya
@[simp]theorem Qp3{ls:eW}:JC hW=true:=Jq _ QkA
@[simp]theorem QqL{ls:bM}:JC (ls.map Xy)=true:=Jq _ Qf2
@[simp]theorem Qk5{a:cD}:JC (a.map QF)=true:=Jq _ QlA
@[simp]theorem Qsu{i:Int}:pur cT=true:=aV
@[simp]theorem QsF{x:Str}:pur iX=true:=aV
@[simp]theorem QtT{b:Bool}:pur lF=true:=aV
@[simp]theorem QsZ:pur .non=true:=aV
@[simp]theorem Qta{ws:aI}:pur sX=JC ws:=zA9
@[simp]theorem Qqh{ws:aI}:pur i8=JC ws:=zA9
@[simp]theorem Qs7{ws:aI}:pur (.frz ws)=JC ws:=zA9
@[simp]theorem Qq9:JC []=true:=aV
@[simp]theorem QqQ{ws:aI}:JC (w::ws)=(pur w&&JC ws):=by rw[JC]
@[simp]theorem Qr3{ws us:aI}:JC (ws++us)=(JC ws&&JC us):=by
 induction ws with
 |nil=>simp
 |cons w ws a=>simp[a,Bool.and_assoc]
@[simp]theorem Qms{ns:dO}:JC l4=true:=by
 induction ns with
 |nil=>rfl
 |cons n ns a=>simp[a]
@[simp]theorem Qri{ws:aI}:Wo i8=JC ws:=aV
theorem X6{n:Nat}(h:n<=1000000):zc6:=Nn h aE
theorem QdI{n:Nat}(h:n<=1000000):n<sizeLine:=Np h aE
@[simp]theorem Qrn:1<=sizeLine:=d5
@[simp]theorem Qq0:2<=sizeLine:=d5
@[simp]theorem QrX:3<=sizeLine:=d5
@[simp]theorem Qq6:4<=sizeLine:=d5
@[simp]theorem Qru:5<=sizeLine:=d5
@[simp]theorem QqT:6<=sizeLine:=d5
@[simp]theorem Qrm:8<=sizeLine:=d5
structure Fd where
 a:Int
 b:Int
 hb:0<=b/\b<1099511627776
noncomputable def QO(f:Fd):MO:=.lst [.int f.a,.int f.b]
theorem Qet{xs:cE b}{i:Int}{P:b->Prop}{f:b->W}(h0:0<=i)(h1:i<xs.length)(c:∀x∈xs,P x):∃x,x∈xs/\P x/\atI ze4 i=sO (f x):=by
 obtain⟨n,rfl⟩:∃n:Nat,i=n:=zo0
 have a:n<xs.length:=aQ
 exact⟨xs[n],E4 a,c _ (E4 a),by rw[Q6,Nq,Nj a];rfl⟩
theorem QiH{f g:Fd}(e:QO f=QO g):f=g:=by
 show fT a b d f;show fT i h c g;simp[QO]at e;show sB e;rfl
def QoM(h:MH)(n:Nat):Prop:=∃f,k'
open Classical in
noncomputable def Qff(h:MH)(n:Nat):Fd:=if p:QoM h n then p.choose else⟨0,0,d5⟩
theorem QcG{n:Nat}(e:k'):Qff h n=f:=by
 have p:QoM h n:=fF f e
 unfold Qff;rw[dif_pos p];exact(QiH (N2 (e.symm.trans p.choose_spec))).symm
@[simp]theorem QrF{f:Fd}:QoM (QO f::h) 0:=C6 f
@[simp]theorem QpR{f:Fd}:Qff (QO f::h) 0=f:=QcG rfl
theorem Qkd{ys:aI}(c:zf8)(py:YK ys=true)(e:zi9)(d:Qaz ys<=40):wIn neg a vR h=sO (.bl (if neg=true then !inW a ys else inW a ys),h):=by
 show((lsW h vR).bind λys=>(drf h 40 a).bind λx=>(Z8 oE ys).map λb=>(W.bl (jj7 b),h))=_;simp only[lsW,Nk];rw[Km h a 40 c e,KB h ys 40 py d];rfl
@[simp]theorem Qts{i:Int}:wIn false cT (.lst [.int 6,.int 7]) h=sO (.bl (decide (i=6\/i=7)),h):=by
 rw[Qkd (by simp[pln]) (by simp[pln,YK]) To (by simp[dep,Qaz])]
 have:inW cT [.int 6,.int 7]=decide (i=6\/i=7):=by
  simp only[inW,D0,List.any_nil,eqW,Yan];rw[IY];simp;lia
 simp[this]
@[simp]theorem Qpp{xs:aO}:JB [JY xs] h=sO (.int xs.length,h):=by unfold JY;simp
@[simp]theorem QrR{xs:aO}:wIx (JY xs) cT h=@om _ _ HN (atI Hz i):=by unfold JY;simp
@[simp]theorem QtK{xs:cE a}:atI xs 2=xs[2]?:=Q6 (n:=2)
@[simp]theorem QtI{xs:cE a}:atI xs 3=xs[3]?:=Q6 (n:=3)
theorem Vz{n j:Nat}(h:(QL a n)[j]?=sO w):j<n/\w=.int (a+j):=by
 have b:=bX h;simp[QL]at b;show tL b;unfold QL at h;rw[Nq,Dr b]at h;cases h;rfl
theorem Qk6{a b:Char}(h:a.toNat=b.toNat):a=b:=by
 have:a.val=b.val:=by
  apply UInt32.toNat_inj.mp;exact h
 exact Char.ext this
theorem W8:∀{a b:List Char},a.map Char.toNat=b.map Char.toNat->a=b
 |[],[],_=>rfl
 |[],_::_,h=>gL h
 |_::_,[],h=>gL h
 |x::a,y::b,h=>by
  simp only[ND,OE]at h;rw[Qk6 h.1,W8 h.2]
@[simp]theorem Qqc{a b:String}:(Str.ofString a=Str.ofString b)↔a=b:=by
 constructor
 ·intro h;rw[OS,OS]at h;have c:=W8 (List.toArray_inj (Str.mk.inj h));exact String.toList_inj.mp c
 ·intro h;rw[h]
#print "-My"
namespace Sb
open PySem SetTable
noncomputable abbrev At(xs:mH)(i:Nat):Nat:=xs.getD i 0
def Up(xs:mH):Prop:=∀i j,i<j->j<xs.size->oU<At xs j
theorem Qii(up:Up xs):∀(f lo c:Nat),c-lo<=f->lo<=c->c<=xs.size->(∀i,i<lo->oU<j)->(∀i,c<=i->qR->j<=oU) ->
  zw5<=xs.size/\(∀i,i<zw5->oU<j)/\∀i,zw5<=i->qR->j<=oU:=by
 intro f
 induction f with
 |zero=>
  intro lo c t r m l h;have:lo=c:=aQ
  subst this;exact⟨m,l,h⟩
 | succ f q=>
  intro lo c t r m l h;unfold below.go
  by_cases d:lo<c
  ·rw[bH d];have p:(lo+c)/2<xs.size:=aQ
   have e:xs.getD ((lo+c)/2) j=At xs ((lo+c)/2):=by simp[Array.getD,p]
   have rel:∀a b,a<=b->b<xs.size->At xs a<=At xs b:=λa b o n=>by
    rcases YaG a b with z|z
    ·exact Nw (up a b z n)
    ·rw[show a=b by exact Dz o z];exact Nv _
   dsimp only;rw[e]
   by_cases g:At xs ((lo+c)/2)<j
   ·rw[bH g];exact q _ c bR aH m (λi s=>Np (rel i _ aH p) g) h
   ·rw[bQ g];exact q lo _ bR aH (Nw p) l (λi o n=>Nn (hP g) (rel _ i o n))
  ·rw[bQ d];have:lo=c:=by exact Dz r (hP d)
   subst this;exact⟨m,l,h⟩
theorem K7(up:Up xs)(j:Nat):zg2<=xs.size/\(∀i,i<zg2->oU<j)/\∀i,zg2<=i->qR->j<=oU:=
 Qii up xs.size 0 xs.size qX gX c8 (λi h=>pX h) (λi b a=>aQ)
theorem Qir(up:Up xs)(a:qR):below xs zh4=i:=by
 obtain⟨d,c,b⟩:=K7 up zh4
 rcases FC (below xs zh4) i with z|z|z
 ·have:=b _ c8 (NT z a);have:=up _ _ z a;omega
 ·exact z
 ·exact absurd (c i z) wO
theorem below_next(up:Up xs)(a:qR):below xs (oU+1)=i+1:=by
 obtain⟨d,c,b⟩:=K7 up (oU+1)
 rcases FC (below xs (oU+1)) (i+1)with z|z|z
 ·have:=b i bR a;lia
 ·exact z
 ·have:=c (i+1) z;have:=up i (i+1) oZ (Ni z d);omega
theorem below_zero(up:Up xs):below xs 0=0:=by
 obtain⟨c,a,b⟩:=K7 up 0
 rcases Nat.eq_zero_or_pos (below xs 0)with z|z
 ·exact z
 ·exact absurd (a 0 z) (E2 _)
theorem at_get(a:qR):xs[i]?=sO zh4:=by simp[Array.getD,a]
theorem mem_at:j∈xs.toList↔∃i,qR/\oU=j:=by
 rw[NN];constructor
 ·rintro⟨i,a⟩
  rw[N1]at a;have b:qR:=(LF.mp a).1;rw[at_get b]at a;exact⟨i,b,N2 a⟩
 ·rintro⟨i,a,e⟩
  exact⟨i,by rw[N1,at_get a,e]⟩
theorem Qe7{t:SetTable}(up:Up t.place)(a:i<t.place.size):t.slot (At t.place i)=.live i:=by
 unfold slot;dsimp only;rw[Qir up a,at_get a];simp
noncomputable def adv(m:Nat)(p:Probe):Probe:=
 if p.more>0 then { p with j:=p.j+1,more:=p.more-1 }else
 let(i,perturb):=leap m p.i p.perturb
 { p with j:=i,more:=runEnd m i-i,i,perturb }
noncomputable def sq(m:Nat)(h:Int):Nat->Probe
 |0=>{ j:=za1,more:=runEnd m (bits h%(m+1))-za1,i:=za1,perturb:=bits h,dummy:=nO }
 |n+1=>adv m (sq m h n)
noncomputable abbrev sj(m:Nat)(h:Int)(n:Nat):Nat:=(sq m h n).j
noncomputable def bk(m:Nat)(h:Int):Nat->hF
 |0=>(za1,bits h)
 |k+1=>leap m (bk m h k).1 (bk m h k).2
noncomputable def ps(m:Nat)(h:Int):Nat->Nat
 |0=>0
 |k+1=>ps m h k+(runEnd m (bk m h k).1-(bk m h k).1)+1
noncomputable abbrev pz(t:SetTable)(es:pF):List (Nat×(Int×Value)):=t.place.toList.zip es.toList
structure Tab(t:SetTable)(es:pF):Prop where
 up:Up t.place
 dum:TW
 len:t.place.size=es.size
 le:∀j∈t.place.toList,j<=t.mask
 own:∀q∈pz t es,∃n,sj t.mask q.2.1 n=q.1/\∀k,k<n->sj t.mask q.2.1 k∈t.place.toList
theorem Tab.fill(T:Tab t es):t.fill=es.size:=by
 unfold SetTable.fill;rw[T.dum,T.len];rfl
theorem Tab.fits(T:Tab t es)(h:es.size<=t.mask):xT:=by
 unfold SetTable.fits;rw[T.fill,T.len];simp[h]
theorem Qih(xs:Array a)(p:Nat)(x:a)(b:p<=xs.size):(insertAt xs p x).toList=xs.toList.take p++x::xs.toList.drop p:=by
 unfold insertAt;simp[FA]
theorem up_list:Up xs↔xs.toList.Pairwise (·<·):=by
 rw[D8];constructor
 ·intro up i j d c a;have b:j<xs.size:=by rwa[NP]at c
  have:=up i j a b;simpa[At,Array.getD,b,show qR by exact NT a b]using this
 ·intro h i j a c;have:=h i j (by rw[NP];exact NT a c) (by rw[NP];exact c) a;simpa[At,Array.getD,c,show qR by exact NT a c]using this
theorem Qdh(up:Up xs)(j:Nat):(∀x∈xs.toList.take (below xs j),x<j)/\∀x∈xs.toList.drop (below xs j),j<=x:=by
 obtain⟨e,d,c⟩:=K7 up j;constructor
 ·intro x b;show Mf a b;rw[List.getElem?_take]at a;split at a
  ·rename_i lt;rw[N1,at_get (Ni lt e)]at a;cases a;exact d i lt
  ·cases a
 ·intro x b;show Mf a b;rw[YaH,N1]at a;have lt:zg2+i<xs.size:=(LF.mp a).1;rw[at_get lt]at a;cases a;exact c _ cJ lt
theorem Qh1(f:d->j2 e):∀(l:cE d),((l.filterMap λj=>(f j).map (j,·)).map (·.1)).Sublist l:=by
 intro l
 induction l with
 |nil=>
  exact .slnil
 |cons a l c=>
  rw[F3];cases f a with
  |none=>exact(c).cons a
  |some b=>exact(c).cons_cons a
#print "-Sb"
namespace St
theorem UB(t:SetTable)(n:Nat):(t.orStandIn n).led=t.led/\(HF->(t.orStandIn n).plain=false):=by
 unfold SetTable.orStandIn;split
 ·exact⟨rfl,id⟩
 ·exact⟨rfl,dG⟩
theorem layNew_keep(t:SetTable)(es:pF)(g:Int)(x:Value):(layNew t es g x).2.1.led=t.led/\(HF->(layNew t es g x).2.1.plain=false):=by
 unfold layNew;split
 ·exact UB _ _
 ·exact⟨rfl,dG⟩
theorem QfB(e:SetTable.laid m f v l p b=sO r):r.1.led=l/\r.1.plain=p:=by
 unfold SetTable.laid at e;obtain⟨o,_,a⟩:=dH e;cases a;exact gD
theorem relayAll_keep(t:SetTable)(es:pF)(n:Nat):(relayAll t es n).2.1.led=t.led/\(HF->(relayAll t es n).2.1.plain=false):=by
 unfold relayAll;split
 ·rename_i c d e;have a:=QfB e;show BL
  ·exact⟨a.1,λb=>a.2.trans b⟩
  ·exact⟨rfl,dG⟩
 ·exact⟨rfl,dG⟩
section
variable{prog:Program}{w:World}{A:Around}{E:bJ}{s:Shared}
def SetL(prog:Program)(w:World)(h:Heap)(a:Addr)(ks:aO)(led:Bool):Prop:=
 ∃o b c t,cQ a=sO o/\o.ExactSet/\o.data=.set b c t/\zq6 b/\T1/\zU t b=true/\t.led=led/\(b.size=0\/HF)/\ks.Nodup/\T2/\∀k,k∈ks↔∃e∈b.toList,R7
theorem SetL.at{h h':Heap}{a:Addr}{ks:aO}{led:Bool}(x:zz6 h)(e:∀o,lP a o):zz6 h':=by obtain⟨o,c,d,t,b,r⟩:=x;exact⟨o,c,d,t,e _ b,r⟩
theorem SetL.lt{h:Heap}{a:Addr}{ks:aO}{led:Bool}(x:zz6 h):TU:=zX2
theorem SetL.typeIs{a:Addr}{ks:aO}{led:Bool}(x:jk0):s.TypeIs (aD a) "set":=zT0
theorem stored{h:Heap}{o:Obj}(g:cQ a=sO o)(f:o.ExactSet)(hd:uF)(h1:zq6 b)(h2:T1)(n:zU t' b=true)(m:b.size=0\/t'.plain=false)(l:ks.Nodup)(j:T2)(i:∀k,k∈ks↔∃e∈b.toList,R7) :
  Pi/\Rk/\(∃c,PD)/\SetL prog w (h.update a zz7) a ks t'.led:=by
 have g1:Pi:=Eh _ g (by rw[BD];rfl);have g2:Rk:=by rw[BD];exact f
 have g3:∃c,PD:=by rw[BD];exact f9
 show lO c d g3;exact⟨g1,g2,fF c d,_,b,c,t',g1,g2,d,h1,h2,n,rfl,m,l,j,i⟩
theorem QiQ(x:Str)(c:Tok):(strKind prog w).is x qE=true:=by
 show Value.isStrOf x qE=true;simp[Value.isStrOf]
theorem QsB{a:Addr}{ks:aO}{led:Bool}{x:Str}{c:Tok}{Q:Bool->eA}(hS:jk0)(room:ks.length+1<scanBound)
  (h:∀b h',lS a->SetL prog w h' a jc3 led->Ti b h') :
  wpAny aT A (setAddHashed a qE Ar) Q E s:=by
 obtain⟨o,I,ep,t,S,hx,hd,y,hb,hf,m,aa,T,hn,i⟩:=hS;have Z:(strKind prog w).is x qE=true:=QiQ x c;have G:(Value.str x c).scannable=true:=rfl;have quiet:∀(b:Bool) {B:Shared} {D:Unit->eA},D () B->wpAny aT A (match b with|true=>PN|false=>pure ()) D E B:=zS4
 show zR2 S;rw[byScan_of G hb y,fO];unfold setAddByScan;refine Na (Na (De (Na (wpAny_setScan_of Z S hd hf y ?_))));cases hr:List.findIdx? (λe=>(strKind prog w).is x e.2) I.toList with
 |some j=>
  show zQ1 I;refine Nh fP;have q:=h false s.heap (YaU a s.heap) ⟨o,I,ep,t,S,hx,hd,y,hb,hf,m,aa,by rw[bH f];exact T,by rw[bH f];exact hn,by rw[bH f];exact i⟩;exact q
 | none=>
  have f:x∉ks:=λf=>by
   show jk1 z;show lX p
  rw[bQ f]at h;have pm:=layNew_perm t I Ar qE;have ft:=layNew_fits t I Ar qE;have Y:=layNew_keep t I Ar qE;dsimp only;generalize layNew t I Ar qE=L at pm ft Y ⊢;obtain⟨d,t1,ab,gv⟩:=L;dsimp only at pm ft Y ⊢;rw[LX]at pm;have X:zq6 d:=(y.push Z G).perm pm;show zS5 F
  show jf9 F
  have P:(ks++[x]).Nodup:=by
   rw[Ew];exact⟨T,aP,zR3⟩
  have C:∀k,k∈ks++[x]↔∃e∈d.toList,R7:=λk=>by
   rw[NU,NG,i k];constructor
   ·show zS6 z
    ·exact⟨_,pm.mem_iff.mpr (N4 _ HL),Z⟩
   ·show zO3 z
    ·rw[gF q]at p;exact .inr ((strKind prog w).inj _ _ _ p Z)
  have fin:∀(g:SetTable),zU g d=true->g.led=led->g.plain=false->wpAny aT A (do
    storeSet a d g
    if(!ab&&g.tooFull)=true then do
      (match (relayAll g d k8).2.2 with|true=>PN|false=>pure ())
      storeSet a (relayAll g d k8).1 (relayAll g d k8).2.1
      Tz
     else Tz) (λr N=>∃v,r=sO v/\∃h',lS a/\jg0/\S1) E s:=by
   show jm0 S;obtain⟨g1,g2,⟨af,g3⟩,g4⟩:=stored (prog:=prog) (w:=w) S hx hd X b1 f2 (.inr p2) P F C;show zX3
   ·have l:=relayAll_perm g d k8;have H:=relayAll_fits g d k8;have n:=relayAll_keep g d k8;generalize relayAll g d k8=R at l H n ⊢;obtain⟨U,t3,ae⟩:=R;dsimp only at l H n ⊢;show jk2 U
    have b2:U.size<scanBound:=nA M b1
    refine zN7;obtain⟨_,_,_,g5⟩:=stored (prog:=prog) (w:=w) (ks:=ks++[x]) g1 g2 g3 (X.perm l) b2 H (.inr (n.2 p2)) P (dX M F) (zN3 C z);rw[n.1,l2]at g5;exact g5
   ·exact jh6
  have O:∀r N,(∃v,r=sO v/\∃h',lS a/\jg0/\S1)->wpAny aT A (match r with|dY J=>pure J|none=>setAddHashedIn a qE Ar 99999) Q E N:=by
   show zT1
  refine Na (quiet _ ?_);cases hp:t1.plain with
  |true=>
   rw[fO,hashByValue_scannable 8 G];refine Na fP;exact N8 (fin { t1 with plain:=false } (SetTable.fits_plain_off ft) (Y.1.trans m) rfl) O (fR q)
  |false=>
   rw[if_neg aB];refine Na fP;exact N8 (fin t1 ft (Y.1.trans m) hp) O (fR q)
#print "-"
#print "-St"
namespace Si
open Sb
structure Uq(t:SetTable):Prop where
 up:Up t.place
 dum:TW
theorem QfT(j:Nat):SetTable.has #[] j=false:=by unfold SetTable.has;simp
theorem Uc{t:SetTable}(hd:TW)(j:Nat):t.slot j≠.dummy:=by
 unfold SetTable.slot;rw[hd,QfT];show BL
 ·exact nofun
 ·simp
theorem UD{t:SetTable}{f:zQ}{h:Int}(hd:TW):∀(n:Nat) (p:SetTable.Probe) (j:Nat) (d:qJ),p.dummy=nO->SetTable.probe.go t f h n p=sO (.empty j d)->t.slot j=.empty/\d=nO:=by
 intro n
 induction n with
 |zero=>
  intro p j d _ e;unfold SetTable.probe.go at e;cases e
 | succ n g=>
  intro p j d c e;unfold SetTable.probe.go at e;have b:(t.advance p).dummy=nO:=by unfold SetTable.advance;split<;>exact c
  cases a:t.slot p.j with
  |empty=>show bK a e;show k5 a c
  |dummy=>exact absurd a (Uc hd _)
  |live i=>
   rw[a]at e;show rS e
   ·cases e
   ·exact g _ j d b e
theorem Qiu{t:SetTable}{h:Int}{j:Nat}{b:Bool}(u:Uq t)(e:t.freeSlot h=d7 j b):j∉t.place.toList:=by
 unfold SetTable.freeSlot at e;split at e
 ·rename_i l d c;obtain⟨a,rfl⟩:=UD u.dum _ _ _ _ rfl c;cases e;intro f;obtain⟨i,g,rfl⟩:=mem_at.mp f;rw[Qe7 u.up g]at a;cases a
 ·cases e
theorem Qn4{t:SetTable}{j:Nat}(u:Uq t)(f:j∉t.place.toList):Uq (t.put j).1:=by
 have g:=(K7 u.up j).1;obtain⟨h,c⟩:=Qdh u.up j;refine⟨up_list.mpr ?_,?_⟩
 ·show(SetTable.insertAt t.place (SetTable.below t.place j) j).toList.Pairwise (·<·);rw[Qih _ _ _ g,List.pairwise_append,List.pairwise_cons];have b:=up_list.mp u.up;refine⟨b.sublist (LR _ _),⟨bG y a,b.sublist (List.drop_sublist _ _)⟩,eE x d y a⟩
  ·have:=c y a;have e:y≠j:=λz=>f (z▸FS a);omega
  ·have:=h x d
   show kD a
   ·exact this
   ·have:=c y a;omega
 ·show(if SetTable.has t.dummies j=true then _ else t.dummies)=#[];rw[u.dum,QfT];rfl
theorem Kr(t:SetTable)(n:Nat):Uq (t.standIn n):=⟨up_list.mpr (by show(Array.range n).toList.Pairwise (·<·);rw[Array.toList_range];exact IH),rfl⟩
theorem QaN{t:SetTable}(n:Nat)(u:Uq t):Uq (t.orStandIn n):=by
 unfold SetTable.orStandIn;split
 ·exact u
 ·exact Kr _ _
theorem Qei{t:SetTable}(es:pF)(g:Int)(x:Value)(u:Uq t):Uq (layNew t es g x).2.1:=by
 unfold layNew;split
 ·rename_i slot b e;exact QaN _ (Qn4 u (Qiu u e))
 ·exact Kr _ _
theorem QlR{m f v:Nat}{l p:Bool}{a:Array Int}{r:SetTable×mH}(e:SetTable.laid m f v l p a=sO r):Uq r.1:=by
 unfold SetTable.laid at e;obtain⟨o,_,b⟩:=dH e;cases b;refine⟨up_list.mpr ?_,rfl⟩;exact(IH (n:=m+1)).sublist (Qh1 _ _)
theorem QbL{t:SetTable}(es:pF)(n:Nat):Uq (relayAll t es n).2.1:=by
 unfold relayAll;split
 ·rename_i b c e;have a:=QlR e;show BL
  ·exact a
  ·exact Kr _ _
 ·exact Kr _ _
section
variable{prog:Program}{w:World}{A:Around}{E:bJ}{s:Shared}
def SetI(prog:Program)(w:World)(h:Heap)(a:Addr)(ks:dO)(led:Bool):Prop:=
 ∃o b c t,cQ a=sO o/\o.ExactSet/\o.data=.set b c t/\zq7 b/\T1/\zU t b=true/\t.led=led/\Uq t/\ks.Nodup/\T2/\∀k,k∈ks↔∃e∈b.toList,RW k=true
theorem SetI.at{h h':Heap}{a:Addr}{ks:dO}{led:Bool}(x:zz8 h)(e:∀o,lP a o):zz8 h':=by obtain⟨o,c,d,t,b,r⟩:=x;exact⟨o,c,d,t,e _ b,r⟩
theorem SetI.lt{h:Heap}{a:Addr}{ks:dO}{led:Bool}(x:zz8 h):TU:=zX2
theorem SetI.typeIs{a:Addr}{ks:dO}{led:Bool}(x:jk3):s.TypeIs (aD a) "set":=zT0
theorem stored{h:Heap}{o:Obj}(g:cQ a=sO o)(f:o.ExactSet)(hd:uF)(h1:zq7 b)(h2:T1)(n:zU t' b=true)(m:Uq t')(l:ks.Nodup)(j:T2)(i:∀k,k∈ks↔∃e∈b.toList,RW k=true) :
  Pi/\Rk/\(∃c,PD)/\SetI prog w (h.update a zz7) a ks t'.led:=by
 have g1:Pi:=Eh _ g (by rw[BD];rfl);have g2:Rk:=by rw[BD];exact f
 have g3:∃c,PD:=by rw[BD];exact f9
 show lO c d g3;exact⟨g1,g2,fF c d,_,b,c,t',g1,g2,d,h1,h2,n,rfl,m,l,j,i⟩
theorem Qs1{a:Addr}{ks:dO}{led:Bool}{x:Int}{c:Tok}{Q:Bool->eA}(hS:jk3)(room:ks.length+1<scanBound)
  (h:∀b h',lS a->SetI prog w h' a jc3 led->Ti b h') :
  wpAny aT A (setAddHashed a sR xG) Q E s:=by
 obtain⟨o,C,ep,t,U,hx,hd,n,hb,hf,m,T,X,hn,i⟩:=hS;have hk:(intKind prog w).is x sR=true:=intKind_is prog w x c;have S:(Value.int x c).scannable=true:=rfl;have quiet:∀(b:Bool) {z:Shared} {D:Unit->eA},D () z->wpAny aT A (match b with|true=>PN|false=>pure ()) D E z:=zS4
 show zR2 U;rw[byScan_of S hb n,fO];unfold setAddByScan;refine Na (Na (De (Na (wpAny_setScan_of hk U hd hf n ?_))));cases hr:List.findIdx? (λe=>RW x) C.toList with
 |some j=>
  show zQ1 C;refine Nh fP;have q:=h false s.heap (YaU a s.heap) ⟨o,C,ep,t,U,hx,hd,n,hb,hf,m,T,by rw[bH f];exact X,by rw[bH f];exact hn,by rw[bH f];exact i⟩;exact q
 | none=>
  have f:x∉ks:=λf=>by
   show jk1 y;show lX p
  rw[bQ f]at h;have pm:=layNew_perm t C xG sR;have ft:=layNew_fits t C xG sR;have kp:=St.layNew_keep t C xG sR;have uq:=Qei C xG sR T;dsimp only;generalize layNew t C xG sR=L at pm ft kp uq ⊢;obtain⟨d,t1,aa,gv⟩:=L;dsimp only at pm ft kp uq ⊢;rw[LX]at pm;have Z:zq7 d:=(n.push hk S).perm pm;show zS5 G
  show jf9 G
  have P:(ks++[x]).Nodup:=by
   rw[Ew];exact⟨X,aP,zR3⟩
  have B:∀k,k∈ks++[x]↔∃e∈d.toList,RW k=true:=λk=>by
   rw[NU,NG,i k];constructor
   ·show zS6 y
    ·exact⟨_,pm.mem_iff.mpr (N4 _ HL),hk⟩
   ·show zO3 y
    ·rw[gF q]at p;exact .inr ((intKind prog w).inj _ _ _ p hk)
  have fin:∀(g:SetTable),zU g d=true->g.led=led->Uq g->wpAny aT A (do
    storeSet a d g
    if(!aa&&g.tooFull)=true then do
      (match (relayAll g d k8).2.2 with|true=>PN|false=>pure ())
      storeSet a (relayAll g d k8).1 (relayAll g d k8).2.1
      Tz
     else Tz) (λr N=>∃v,r=sO v/\∃h',lS a/\jg1/\S1) E s:=by
   show jm0 U;obtain⟨g1,g2,⟨ae,g3⟩,g4⟩:=stored (prog:=prog) (w:=w) U hx hd Z b1 f2 p2 P G B;show zX3
   ·have l:=relayAll_perm g d k8;have I:=relayAll_fits g d k8;have H:=St.relayAll_keep g d k8;have F:=QbL (t:=g) d k8;generalize relayAll g d k8=R at l I H F ⊢;obtain⟨Y,t3,ab⟩:=R;dsimp only at l I H F ⊢;show jk2 Y
    have b2:Y.size<scanBound:=nA M b1
    refine zN7;obtain⟨_,_,_,g5⟩:=stored (prog:=prog) (w:=w) (ks:=ks++[x]) g1 g2 g3 (Z.perm l) b2 I F P (dX M G) (zN3 B y);rw[H.1,l2]at g5;exact g5
   ·exact jh6
  have O:∀r N,(∃v,r=sO v/\∃h',lS a/\jg1/\S1)->wpAny aT A (match r with|dY J=>pure J|none=>setAddHashedIn a sR xG 99999) Q E N:=by
   show zT1
  refine Na (quiet _ ?_);cases hp:t1.plain with
  |true=>
   rw[fO];unfold hashByValue;refine Na fP;rw[fO];exact N8 je9 O (fR q)
  |false=>
   rw[if_neg aB];refine Na fP;exact N8 je9 O (fR q)
#print "-"
#print "-Si"
namespace Sb
open SetTable L2
noncomputable abbrev Ex(h h':Heap):Prop:=∀b o,lP b o
theorem Qg8(e:Ex h h')(x:za6 h):za6 h':=by show fT o b r x;exact⟨o,e _ _ b,r⟩
#print "-Sb"
namespace St
noncomputable def uniq(l:aO):aO:=zT9
theorem uniq_snoc(l:aO)(x:Str):uniq (l++[x])=if x∈uniq l then uniq l else uniq l++[x]:=by unfold uniq;rw[FE];rfl
theorem QhK:∀(n:Nat) (l:aO),BA->(uniq l).length<=n:=by
 intro n
 induction n with
 |zero=>intro l h;rw[C8];exact Nv _
 |succ n a=>
  intro l h;obtain⟨u,x,rfl⟩:Tj:=⟨l.dropLast,l.getLast (λz=>by show bK z h),M7⟩
  rw[uniq_snoc];have:=a u RO;split
  ·exact Nn this cJ
  ·rw[NK,Ei];exact E5 this _
theorem uniq_mem:∀(n:Nat) (l:aO),BA->∀y,y∈uniq l↔y∈l:=by
 intro n
 induction n with
 |zero=>intro l h y;rw[C8];exact Iff.rfl
 |succ n a=>
  intro l h y;obtain⟨u,x,rfl⟩:Tj:=⟨l.dropLast,l.getLast (λz=>by show bK z h),M7⟩
  have q:=a u RO;rw[uniq_snoc,NU,NG];split
  ·rename_i b;rw[q y];exact⟨.inl,λz=>z.elim id λe=>by rw[e];exact(q x).mp b⟩
  ·rw[NU,NG,q y]
section
variable{prog:Program}{w:World}{A:Around}{R:Result->eA}{I:Addr}{fp wr:gO}{G:B4->B4->Prop}{n:Nat}{P:Nat->yY}{St':Nat->eA}
theorem QnH(W:zZ4)(S:Addr)(f:S∉fp)(led:Bool)(l:aO)(F:BA)(E:∀i v,P i v->∃x c,l[i]?=sO x/\v=.str x c)(N:n+1<scanBound) :
  ∀(k i:Nat) (s:Shared),n-i=k->i<=n->St' i s->SetL prog w s.heap S (uniq vG) led ->
   (∀a,Moved (S::wr) G s a->SetL prog w a.heap S (uniq l) led->R (.ok oA) a) ->
   codeAny aT A (.builtin "set.update.loop" ⟨[aF S,aF I],[]⟩) R s:=by
 show zO7
 induction k with
 |zero=>
  show T';obtain rfl:i=n:=aQ
  show So;show wpAny _ A.in1 (pyNext (aD I)>>=_) _ _ s;show zP8;exact Rr
 | succ k C=>
  show T';have lt:i<n:=aQ
  show So;show wpAny _ A.in1 (pyNext (aD I)>>=_) _ _ s;refine Na (W.item i s _ _ lt st λv a L g d=>?_);obtain⟨x,c,D,rfl⟩:=E i v L;have r:SetL prog w a.heap S (uniq vG) led:=Rr;show wpAny _ A.in1 (holding [zg8 c] (setAdd S qE)>>=_) _ _ a;refine Na P9;unfold setAdd;refine N0 (Na ((strKind prog w).pyHash (k:=x) (QiQ x c) ?_))
  have room:(uniq vG).length+1<scanBound:=by
   have:=QhK _ vG rfl;rw[E3]at this;lia
  refine QsB (s:={ a with toks:=a.toks+1 }) r room (eE b M y p)
  have m:SetL prog w M S (uniq (l.take (i+1))) led:=by
   rw[Dq,D,Di,uniq_snoc];exact p
  refine Nh ⟨Dk Dn _,C (i+1) _ aH lt (W.frame _ a _ _ g (Ff _) (eE b z o e)) m (aM h j q)⟩
  ·exact(y.2 b (λu:b=S=>f (uX u z))).trans e
  ·refine t h zO5 q;exact(y.2 b (λu:b=S=>yF z u)).trans e
#print "-"
section
variable{prog:Program}{w:World}{A:Around}{E:bJ}{s:Shared}
noncomputable abbrev ledW(w:World):Bool:=! zp4
noncomputable abbrev emptySet(b:Bool):Obj:={ cls:=.type "set",dict:=nO,data:=.set #[] 0 (.fresh 0 0 b) }
theorem newL(a:Value)(h:Q₁ d8 { s with heap:=s.heap.push gA }) :
  codeAny aT A (.call (.builtin "set.__new__") zs7) (wants Q₁ E) s:=by
 refine IZ (show wpAny _ A.in1 (do checkBuiltinCall "set.__new__" zs7;again (.builtin "set.__new__" zs7)) _ _ s from ?_);refine Na (Lw (F.newCall_set_1 a) (Nh ⟨Dk F.plain_set_new _,Es (F.entry_set_new) ?_⟩));rw[Et F.plain_set_new _];unfold Builtin.«set.__new__» Builtin.Frozenset.newClass;have b:=sub_set_self;obtain⟨c,g,d,tk,os⟩:=s;dsimp only
 wp_walk
 refine Fg fP;dsimp only;simp only[newObj];exact Na (wpAny_alloc (Nh (Nh h)))
theorem UX(e:cQ a=sO (emptySet b)):SetL prog w h a [] b:=
 ⟨_,#[],0,_,e,AR,rfl,λx c=>gL c,d5,rfl,rfl,wA,Ez,rfl,λk=>aP⟩
theorem QpD{Q:bJ}(P:f5)(O:AB)(G:zz9 r)(R:xH)
  (h:∀(h':Heap) (tk:Nat),zm9 r->(∀b o,pE->fL)->Q d8 { s with heap:=h',toks:=tk }) :
  wpAny aT A (Builtin.«set.__init__» ⟨[eZ s,aF l],[]⟩) (λfin y=>fin=.done oA/\Q d8 y) E { s with heap:=s.heap.push gA }:=by
 have hS:(s.heap.push gA).get? s.heap.objs.size=sO gA:=dF;have hT:Shared.TypeIs { s with heap:=s.heap.push gA } d8 "set":=yL
 show Ts O;show Px J;have g:(s.heap.push gA).get? l=sO { cls:=dE,dict:=f,data:=TX,slots:=a }:=Nl _ j;have n:(s.heap.push gA).IsList l items:=S7
 have n1:=F.sub_list_set;have n2:=Yac;have Z:(zB0==SI)=false:=d5
 show Pe I;refine FB n Uf;show AJ m j;have d:(s.heap.push gA).objs.size=xX:=DK _ _;have C:l≠(s.heap.push gA).objs.size:=RI
 have M:s.heap.objs.size∉[(s.heap.push gA).objs.size,l]:=by
  show Pk
 show zT2 G
 have N:zP3:=λi v e=>by
  have L:items.toList[i]?=sO v:=nA N1 e
  obtain⟨x,c,rfl⟩:=G.all v (j7 i L);refine⟨x,c,?_,rfl⟩;rw[<-G.strs,Nq,L];rfl
 refine QnH ((Yad (show rV by simp[P]) _ l C items).toS) s.heap.objs.size M BU r D N R B3 0 _ rfl gX ⟨⟨_,dF,rfl,rfl⟩,n.push _⟩ (UX zh5) (aM y t H);show c7 h' S Y u z y;have U:S=s.gens:=t.gens;show PV X Y t T U;refine PK u H;show Pf t
theorem set_list(y:f5)(v:AB)(x:zz9 u)(z:xH)
  (h:∀(h':Heap) (tk:Nat),zm9 u->(∀b o,pE->fL)->Q d8 { s with heap:=h',toks:=tk }) :
  wpAny aT A (call B9 [aF l]) Q E s:=by
 have body:∀(m:Around),m.handled=nO->wpAny aT m (Builtin.«set.__init__» ⟨[eZ s,aF l],[]⟩) (λfin n=>fin=.done oA/\Q d8 n) E { s with heap:=s.heap.push gA }:=by
  intro m C;exact QpD C v x z h
 show zM8 G p O N;refine Nh ⟨Ig _ cF,jn9⟩;rw[YaI (O2 "set" [fJ l] []) rfl];have M:=ET.notType;have L:=ET.canCreate;have J:=F.typeCall_set_1 (qW l)
 show xB
 refine DN (newL (qW l) (E:=E) (Q₁:=λobj f=>obj=eZ s/\f={ s with heap:=s.heap.push gA }) gD) (aM r f j);cases r with
 |error e=>exact j
 | ok D=>
  cases D with
  | ret obj=>
   show sB j;have hS:(s.heap.push gA).get? s.heap.objs.size=sO gA:=dF;have B:Shared.TypeIs { s with heap:=s.heap.push gA } d8 "set":=yL
   have I:=ET.init.lookup;have H:=ET.init.bind d8
   show xB
   refine DN (Yae (R:=wants (λr d=>r=.none/\Q d8 d) E) ET.init.plain F.entry_set_init (check_set_init_1 B (N8 (body _ (eC y)) (λfin n q=>?_) (fR q)))) (aM i d a)
   show jr9
   ·cases i with
    |error e=>exact a
    | ok g=>
     cases g with
     |ret r=>
      show tF q a
      show xB
     |_=>exact a.elim
  |_=>exact j.elim
#print "-"
theorem slotN:Slot "set_iterator" "__next__" "set_iterator.__next__":=.of (owner:="set_iterator") (n:="__next__") (by show HG) cF cF cF (by first|exact .inl cF|exact .inr cF) RP
theorem Qi8:entryFor table "set_iterator.__next__"=sO Builtin.«set_iterator.__next__»:=entryFor_of_tree AZ
theorem QoA(a:Value):argsOk "set_iterator.__next__" ⟨[a],[]⟩:=jk4
theorem Qma:entryFor table "set.__iter__"=sO Builtin.«frozenset.__iter__»:=entryFor_alias (id':="frozenset.__iter__") AZ rfl cF AZ
theorem UR(lt:j<l.length):List.Perm (l[j]::l.eraseIdx j) l:=by
 rw[List.eraseIdx_eq_take_drop_succ];have e:l=l.take j++l[j]::l.drop (j+1):=by rw[<-EY lt,List.take_append_drop]
 conv=>rhs;rw[e]
 exact List.perm_middle.symm
theorem QjR(nx:Nat->Nat):∀(f k:Nat) (l:cE a) (o:Array a),f=l.length->List.Perm (pickOrder.go nx f k l o).toList (o.toList++l):=by
 intro f
 induction f with
 |zero=>
  intro k l o h;rw[Ee.mp h.symm,Dd];exact .rfl
 |succ f b=>
  intro k l o h;unfold pickOrder.go;have lt:nx k%l.length<l.length:=Nat.mod_lt _ (Ni Ci (Nt h));generalize nx k%l.length=j at lt;rw[Nj lt];refine(b (k+1) (l.eraseIdx j) (o.push l[j]) (by rw[LG lt];lia)).trans ?_;rw[LX,FF,List.singleton_append];exact List.Perm.append_left _ (UR lt)
theorem Qf5(nx:Nat->Nat)(xs:Array a):List.Perm (pickOrder nx xs).toList xs.toList:=by
 have:=QjR nx xs.size 0 xs.toList #[] aB;simpa[pickOrder]using this
section
variable{prog:Program}{w:World}{A:Around}{E:bJ}{s:Shared}
theorem Qnz(a:n≠0)(h:∀j d,j<n->Q j { s with drawn:=d }):wpAny M A (choose src n) Q E s:=λb p _=>by
 show Sem.wp M b (.choose src n λi=>pure i) _ _ p s;rw[Sem.wp_choose];exact⟨a,h _ _ (Nat.mod_lt _ (Nat.pos_of_ne_zero a))⟩
theorem QaT:∀(n:Nat) (xs:cE b) (s:Shared) (Q:cE b->eA),n=xs.length->(∀ys d,List.Perm ys xs->Q ys { s with drawn:=d })->wpAny aT A (drawOrder n xs) Q E s
 |0,xs,s,Q,a,h=>by
  have e:=Ee.mp a.symm;subst e;exact Nh (h [] s.drawn .rfl)
 |n+1,[],s,Q,a,h=>jC a
 |n+1,x::xs,s,Q,a,h=>by
  unfold drawOrder;refine Na (Qnz aB λj c lt=>?_);rw[Nj lt];refine Na (QaT n _ _ _ (by rw[LG lt];simp at a ⊢;exact a) λys d p=>Nh (h _ d ?_));exact(p.cons _).trans (UR lt)
#print "-"
theorem Qi3:Slot "set_iterator" "__iter__" "set_iterator.__iter__":=.of (owner:="set_iterator") (n:="__iter__") (by show HG) cF cF cF (by first|exact .inl cF|exact .inr cF) RP
theorem Qk3:entryFor table "set_iterator.__iter__"=sO Builtin.«dict_keyiterator.__iter__»:=entryFor_alias (id':="dict_keyiterator.__iter__") AZ rfl cF AZ
theorem Qn1(a:Value):argsOk "set_iterator.__iter__" ⟨[a],[]⟩:=jk4
section
variable{prog:Program}{w:World}{A:Around}{E:bJ}{s:Shared}
noncomputable abbrev Qhd(f:Value)(i:Nat)(S:Addr)(n ep:Nat):Obj:={ cls:=zw6,data:=.fields #[f,.int i 0,aF S,.int n 0,zj0] }
inductive How(w:World)(S T:Addr)(h:Heap)(es:pF)(ep:Nat)(t:SetTable)(vs:aX):Nat->yY where
 |tup {i:Nat} {ps:aZ} (hT:cQ T=sO { cls:=i6,data:=.seq (zq8 p) 0 }) (hl:ps.length=vs.length) (hp:∀(j p:Nat),M1->∃e,es[p]?=sO e/\vs[j]?=sO e.2):How w S T h es ep t vs i (aD T)
 |text {i:Nat} (c:Nat) (hb:CB=true) (hv:vs=(pickOrder zs0 es).toList.map (·.2)):jb1
 |slots {i:Nat} (c:Nat) (hb:CB=false) (hled:t.led=true) (hs:Au) (hv:vs=es.toList.map (·.2)) (hc:zs8=i):jb1
def ItT(w:World)(I S T:Addr)(b:aX)(i:Nat)(h:Heap):Prop:=
 ∃f o a c t,cQ I=sO (Qhd f i S b.length c)/\cQ S=sO o/\o.data=.set a c t/\zU t a=true/\(t.plain=true\/a.size<=1->HH)/\a.size=b.length/\How w S T h a c t b i f
theorem QcP{t:SetTable}(a:t.fits n=true):t.place.size=n:=by
 simp only[SetTable.fits,N5,beq_iff_eq]at a;exact a.1
theorem How.keep(x:How w S T h es ep t e i f)(k:∀o,lP T o):How w S T h' es ep t e i f:=by
 cases x with
 |tup n l j=>exact .tup (k _ n) l j
 |text c d b=>exact .text c d b
 |slots c d a g b m=>exact .slots c d a g b m
theorem QkL(k:Nat):rawInt d6=Value.int k 0:=rfl
theorem QsX:(#[f,a,b,c,d]:eN).setIfInBounds 0 x=#[x,a,b,c,d]:=by rfl
theorem Qst:(#[f,a,b,c,d]:eN).setIfInBounds 1 x=#[f,x,b,c,d]:=by rfl
theorem QcV{h:Heap}(e:cQ I=sO (Qhd f i S n ep))(k:Nat)(x:Value):(h.update I (Obj.mapFields (·.setIfInBounds k x))).get? I=sO { cls:=zw6,data:=.fields ((#[f,.int i 0,aF S,.int n 0,zj0]:eN).setIfInBounds k x) }:=Eh _ e rfl
theorem Qsw{h:Heap}(e:cQ I=sO (Qhd f i S n ep)):((h.update I (Obj.mapFields (·.setIfInBounds 0 x))).update I (Obj.mapFields (·.setIfInBounds 1 y))).get? I=sO { cls:=zw6,data:=.fields #[x,y,aF S,.int n 0,zj0] }:=by
 have g1:=QcV e 0 x;rw[QsX]at g1;exact Eh (Obj.mapFields (·.setIfInBounds 1 y)) g1 rfl
theorem YN(f:c9 s S=sO o)(d:uF)(b:xT)(a:CB=true)
  (h:Q (((pickOrder zs0 es)[i]?).map λe=>(e.2,c)) s):wpAny aT A (setNext S c i ep) Q E s:=by
 unfold setNext;show zk2 f d b;rw[bH a];rw[if_neg aB];show tX;unfold setWalk;show zk2 f d b;rw[bH a];refine Na (Fg fP);exact Nh h
theorem G6(d:c9 s S=sO o)(c:uF)(b:xT)(a:es[p]?=sO e)(h:Q e.2 s):wpAny aT A (setNextDrawn S p ep) Q E s:=by
 unfold setNextDrawn;refine Na (DD d c b ?_);dsimp only;rw[if_neg aB,a];exact Nh h
theorem Ys(g:c9 s S=sO o)(f:uF)(e:xT)(d:CB=false)(a:t.led=true)(b:Au)
  (h:Q (match es[zs8]?,t.place[zs8]? with|some (_,x),sO j=>sO (x,j+1)|_,_=>nO) s):wpAny aT A (setNext S c i ep) Q E s:=by
 unfold setNext;show zk2 g f e;rw[if_neg (zB d)];show wpAny _ _ (if jf0=true then _ else _) _ _ _
 rw[if_neg (by
  show hZ b z
  ·rw[z];simp
  ·have:¬es.size>1:=by exact NZ.mpr z
   simp[this])]
 show wpAny _ _ ((if(!t.led&&!es.isEmpty)=true then unsupported "set:maker-not-led"else pure ())>>=_) _ _ _;rw[if_neg (zB a)];exact Na (Nh (Nh h))
theorem Qf1{i:Nat}(G:S≠I)(F:T≠I)(st:ItT w I S T u i s.heap)(N:i<u.length)
  (Y:∀v h',u[i]?=sO v->ItT w I S T u (i+1) h'->lS I->Q jD { s with heap:=h' }):wpAny aT A (pyNext (aD I)) Q E s:=by
 obtain⟨f,o,m,H,t,l,r,n,j,up,d,hw⟩:=st;have X:s.TypeIs (aD I) "set_iterator":=gN l
 show zM2 X l r n j;rw[if_neg (eC d)];have two:∀(x y:Value),Heap.SameBut I s.heap ((s.heap.update I (Obj.mapFields (·.setIfInBounds 0 x))).update I (Obj.mapFields (·.setIfInBounds 1 y))):=λx y=>(NV ..).trans nJ
 have P:∀(x:Value) (nx:Nat),u[i]?=sO x->How w S T s.heap m H t u (i+1) (.int nx 0)->wpAny aT A.in1 (do
   setField (qW I) 0 (rawInt (nx:Int))
   setField (qW I) 1 (rawInt (fQ+1))
   ret x) (λfin J=>∃v,Ry/\wpAny aT A (pure jD) Q E J) (λe J=>wpAny aT A zk7 Q E J) s:=by
  intro x nx hx L;refine Na (Dl l rfl aB (Na (Dl (QcV l 0 _) rfl aB (Nh ⟨x,rfl,Nh (Y x _ hx ?_ (two _ _))⟩))));refine⟨.int nx 0,o,m,H,t,Qsw l,?_,n,j,up,d,L.keep (bG Z e)⟩
  ·rw[(two _ _).2 S G];exact r
  ·rw[(two _ _).2 T F];exact e
 cases hw with
 |@tup ps D U R=>
  show jk5 D;have h:ps[i]?=sO ps[i]:=Nj (Ni N (cL U));generalize ps[i]=q at h;obtain⟨e,he,z⟩:=R i q h;have:((ps.map zy0).toArray)[i]?=sO (Value.int (q:Int) 0):=by simp[h,QkL]
  rw[this];dsimp only;refine Na (G6 r n j (p:=q) he (Na (Dl l rfl aB (Nh ⟨e.2,rfl,Nh (Y e.2 _ z ?_ nJ)⟩))));have O:Heap.SameBut I s.heap (s.heap.update I (Obj.mapFields (·.setIfInBounds 1 (rawInt (fQ+1))))):=NV ..;refine⟨aF T,o,m,H,t,?_,by rw[O.2 S G];exact r,n,j,up,d,How.keep (.tup D U R) λZ e=>by rw[O.2 T F];exact e⟩;have g:=QcV l 1 (rawInt (fQ+1));rw[Qst]at g;exact g
 |text c C z=>
  simp only[Ec];refine Na (YN r n j (i:=i) (c:=c) C ?_);subst z;have a:i<(pickOrder (w.params.setOrder S H) m).size:=cN N
  rw[NH a];exact P _ c jo0 (.text c C rfl)
 |slots c C b M z hc=>
  simp only[Ec];refine Na (Ys r n j (i:=i) (c:=c) C b M ?_);subst z;have a:i<m.size:=cN N
  have B:i<t.place.size:=by rw[QcP j];exact a
  rw[hc,NH a,Sb.at_get B];exact P m[i].2 (Sb.At t.place i+1) jo0 (.slots _ C b M rfl (Sb.below_next (up M) B))
theorem QcI(d:B.handled=nO)(f:∀h',(∀b o,fL)->zs9) :
  wpAny aT B (jd4>>=raiseNew) (λ(fin:Fin) c=>∃v,Ry/\wpAny aT A (pure jD) Q E c) (λe c=>wpAny aT A zk7 Q E c) s:=by
 show tX;show zM1;rw[d];refine js0;refine Na (FR (T:="StopIteration") (b:=true) ⟨_,dF,rfl⟩ isSubtype_stop ?_);refine Nh (f _ ?_);exact λb o e=>Nl _ w6
theorem GH(G:f5)(L:S≠I)(J:T≠I)(st:ItT w I S T d d.length s.heap)
  (z:∀h',Heap.ExtBut I s.heap h'->zs9):wpAny aT A (pyNext (aD I)) Q E s:=by
 obtain⟨f,o,C,M,t,j,u,r,q,up,g,hw⟩:=st;have y:s.TypeIs (aD I) "set_iterator":=gN j
 show zM2 y j u r q;rw[if_neg (eC g)];have B:rV:=G
 have one:wpAny aT A.in1 (do
   setField (qW I) 2 Value.none
   raiseNew (<-newExc jg2 [])) (λ(fin:Fin) l=>∃v,Ry/\wpAny aT A (pure jD) Q E l) (λe l=>wpAny aT A zk7 Q E l) s:=by
  refine Na (Dl j rfl aB (QcI B je1));rw[(NV ..).2 b a];exact e
 cases hw with
 |@tup ps n F N=>
  show jk5 n;rw[show((ps.map zy0).toArray)[d.length]?=nO by simp[F]];refine Na (Dl j rfl aB (Na (Dl (QcV j 0 _) rfl aB (QcI B je1))));rw[((NV s.heap I _).trans nJ).2 b a];exact e
 |text c a x=>
  simp only[Ec];refine Na (YN u r q (i:=d.length) (c:=c) a ?_);rw[show(pickOrder (w.params.setOrder S M) C)[d.length]?=nO by rw[x];simp];exact one
 |slots c a h D x H=>
  simp only[Ec];refine Na (Ys u r q (i:=d.length) (c:=c) a h D ?_);rw[H,show C[d.length]?=nO from II (Nt g)];exact one
theorem Qp0(st:ItT w I S T c i s.heap)(h:Q (aD I) s):wpAny aT A (pyIter (aD I)) Q E s:=by
 obtain⟨f,o,d,e,t,b,_⟩:=st;have a:s.TypeIs (aD I) "set_iterator":=gN b
 refine LY a Qi3 (Ej Qi3 a Qk3 ?_ (Qn1 _));exact Nh ⟨_,rfl,"set_iterator",_,a,slotN.lookup,h⟩
theorem QnV(y:f5)(I S T:Addr)(d:S≠I)(c:T≠I)(j:aX) :
  Walks prog w A I [I,S,T] [I] j.length (λi v=>j[i]?=sO v) (λi h=>ItT w I S T j i h) where
 sub:=jk6
 frame:=λi h g z k=>by
  obtain⟨f,o,C,D,t,H,G,F,B,up,m,hw⟩:=z;exact⟨f,o,C,D,t,k I aB _ H,k S aB _ G,F,B,up,m,hw.keep λo e=>k T aB o e⟩
 item:=λi s Q E u st n=>Qf1 d c st u λv g r l p=>n v g s.toks r l λb o a e=>by rw[p.2 b (λz=>a (eC z))];exact e
 done:=λs Q E st n=>GH y d c st λg x=>n g s.toks λb o a e=>x b o (λz=>a (eC z)) e
 self:=λi s Q E st q=>Qp0 st q
noncomputable abbrev atP(es:pF)(i:Nat):Value:=(es.getD i (0,.none)).2
theorem QdG{ps:aZ}(p:ps.Perm (List.range es.size)):(ps.map MW).Perm (es.toList.map (·.2))/\∀(j q:Nat),ps[j]?=sO q->∃e,es[q]?=sO e/\(ps.map MW)[j]?=sO e.2:=by
 constructor
 ·refine(p.map _).trans ?_
  have:(List.range es.size).map MW=es.toList.map (·.2):=by
   show wF j;rw[Nq,Nq]
   by_cases lt:j<es.size
   ·simp[atP,Array.getD,lt]
   ·rw[NW (by simpa using lt),NW (by simpa using lt)];rfl
  rw[this]
 ·intro j q a;have lt:q<es.size:=Ep.mp (p.mem_iff.mp (j7 j a));refine⟨es[q],NH lt,?_⟩;rw[Nq,a];simp[atP,Array.getD,lt]
theorem Qqr{es:pF}(g:c9 s S=sO o)(N:o.ExactSet)(x:uF)(u:xT)(up:Au->HH)(y:t.led=ledW w)(hz:Ha)
  (h:∀h' d I T (f:aX),(∀b o,fL)->s.heap.objs.size<=I->(T=S\/s.heap.objs.size<=T)->S≠I->T≠I->f.Perm (es.toList.map (·.2))->f.length=es.size->ItT w I S T f 0 h'->Q (aD I) { s with heap:=h',drawn:=d }) :
  wpAny aT A (pyIter (aD S)) Q E s:=by
 have G:s.TypeIs (aD S) "set":=Cm g N
 have m:=NC g;refine LY G F.slot_set_iter (Ej F.slot_set_iter G Qma ?_ (F.args_set_iter_1 _));unfold Builtin.«frozenset.__iter__» Builtin.Frozenset.slot0;refine Na (Na (Nh fP));unfold Builtin.Frozenset.sizeOf;refine Na (Na (Lj g x u fP));refine Na (Na (DD g x u ?_));dsimp only;unfold setsByText;refine Na (Na (Fg (Nh fP)));show wpAny _ _ (if(! zp4&&jf0)=true then _ else _) _ _ _
 have made:∀(c:Int) (f:aX),c=0->f.Perm (es.toList.map (·.2))->How w S S (s.heap.push (Qhd (.int (0:Nat) 0) 0 S es.size ep)) es ep t f 0 (.int (0:Nat) 0)->wpAny aT A.in1 (do
   let first <-pure (rawInt c)
   ret (<-newFields "set_iterator" [first,rawInt 0,fJ S,rawInt (es.size:Int),rawInt ((<-setEpoch S):Int)])) (λfin D=>∃v,Ry/\∃H r,D.TypeIs v H/\typeLookup (Value.type H) (Str.ofString "__next__")=pure (sO r)/\Q v D) E s:=by
  intro c f P p hw;subst P;refine Na (Nh (Na (wpAny_setEpoch_of g x u (Na (Eo (Nh ⟨_,rfl,"set_iterator",_,⟨_,dF,rfl⟩,slotN.lookup,?_⟩))))));have a:es.size=f.length:=by rw[p.length_eq,Ny,NP]
  refine h _ s.drawn s.heap.objs.size S f (HR M) c8 fA (NB m) (NB m) p a.symm ?_;exact⟨.int (0:Nat) 0,o,es,ep,t,by rw[<-a];exact dF,Nl _ g,x,u,up,a,hw⟩
 cases q:CB with
 |true=>
  rw[if_neg aB];exact made 0 ((pickOrder zs0 es).toList.map (·.2)) rfl ((Qf5 _ es).map _) (.text 0 q rfl)
 | false=>
  have n:t.led=true:=by rw[y];simp[ledW,q]
  by_cases C:HF/\es.size>1
  ·rw[if_pos (by simp[C.1,C.2])];refine Na (QaT es.size (List.range es.size) s _ aB λps d p=>?_);have B:ps.length=es.size:=by rw[p.length_eq,D3]
   refine Na (wpAny_newTuple ?_ (by rw[Ny,B];exact hz));refine Na (wpAny_setEpoch_of (s:={ s with drawn:=d,heap:=s.heap.push { cls:=i6,data:=.seq (zq8 i) } }) (Nl _ g) x u ?_);refine Na (Eo (Nh ⟨_,rfl,"set_iterator",_,⟨_,dF,rfl⟩,slotN.lookup,?_⟩));obtain⟨L,J⟩:=QdG p;have a:es.size=(ps.map MW).length:=by rw[Ny,B]
   have j:(s.heap.push { cls:=i6,data:=.seq (zq8 i) }).objs.size=xX:=DK _ _;refine h _ d _ s.heap.objs.size (ps.map MW) (λb M e=>Nl _ w6) (by show s.heap.objs.size<=zs1;rw[j];exact Nu _ _) (.inr c8) (by show S≠zs1;rw[j];exact NB (EV m)) (by show s.heap.objs.size≠zs1;rw[j];exact NB oZ) L a.symm ?_;refine⟨eZ s,o,es,ep,t,by rw[<-a];exact dF,Nl _ (Nl _ g),x,u,up,a,.tup (ps:=ps) (Nl _ ze5) (by rw[<-a,B]) J⟩
  ·have l:Au:=by
    cases O:t.plain with
    |true=>exact wA
    |false=>
     right
     rcases YaG 1 es.size with z|z
     ·exact absurd (fF O z) C
     ·exact z
   rw[if_neg (by
    show hZ l z
    ·rw[z];simp
    ·have:¬es.size>1:=by exact NZ.mpr z
     simp[this])]
   exact made 0 (es.toList.map (·.2)) rfl .rfl (.slots 0 q n l rfl (Sb.below_zero (up l)))
theorem Qqb(d:s.TypeIs (aD S) "set")(h:Q false s):wpAny aT A (Builtin.List.listLengthHint (aD S)) Q E s:=by
 unfold Builtin.List.listLengthHint;refine Na (Dy d F.slot_set_len.lookup ?_);generalize a:("set.__len__":String)=c
 wp_delta
 rw[show splitId c=sO ("set","__len__")from by subst a;show C9];subst a;refine Na (FR (T:="set") (b:=true) d RP ?_);refine OF (λz=>absurd z aE) (λ_=>OF (λ_=>?_) (λz=>absurd cF z));exact Na (Dt d (Nh h))
noncomputable abbrev lsO(xs:eN)(c:Nat):Obj:={ cls:=dE,dict:=nO,data:=.seq xs c,slots:=#[] }
theorem QkB(hh:f5)(Z:c9 s S=sO o)(J:o.ExactSet)(e3:uF)(ft:xT)(up:Au->HH)(B:t.led=ledW w)(n:N≠S)(res:Value)(l:Nat)(hN:c9 s N=sO (lsO #[] l))(hz:Ha)
  (hR:∀h' d tk (h:aX) u,h.Perm (es.toList.map (·.2))->(∀b o,b≠N->fL)->oX N=TQ h u->R (.ok (.ret res)) { s with heap:=h',drawn:=d,toks:=tk }) :
  wpAny aT A.in1 (Builtin.List.listExtendWith (aD N) (aD S) res) (λfin m=>match fin with|.done f=>R (.ok f) m|.again u=>u.quiet=true/\codeAny aT A u R m) (λe m=>R (.error e) m) s:=by
 unfold Builtin.List.listExtendWith;refine Na (Dt (T:="set") (Cm Z J) ?_);have n1:Builtin.List.listSameRef (aD N) (aD S)=false:=jh7 n
 have n2:(Value.type "set"==zB0)=false:=d5
 have n3:(Value.type "set"==Sw)=false:=d5
 simp only[n1,n2,n3,Yan,Er,if_false];refine Na (Qqr Z J e3 ft up B hz λY d I T h F hI M P O str L st=>?_);have p:=F _ _ hN;have x:N<s.heap.objs.size:=NC hN;have U:N≠I:=λz=>absurd hI (by rw[<-z];exact Iq.mpr x)
 have Q:N≠T:=by
  show hZ M z
  ·rw[z];exact n
  ·exact λe=>absurd z (by rw[<-e];exact Iq.mpr x)
 have nf:N∉[I,S,T]:=by
  show zu6;exact⟨U,n,Q⟩
 have W:=QnV (prog:=prog) (w:=w) (A:=A.in1.in1) (by simp[hh]) I S T P O h
 have key:∀(D:Heap) (a:Nat),ItT w I S T h 0 D->(∀b o,b≠N->c9 s b=sO o->fU D=sO o)->D.get? N=sO (lsO #[] a)->codeAny aT A (.builtin "list.extend.loop" ⟨[aF N,aF I,res],[]⟩) R { s with heap:=D,drawn:=d }:=by
  intro D a H k2 g;refine Yaf (Walks.of_in1 W).toS (by rw[L];exact hz) N nf res h.length 0 _ #[] a rfl gX H g (ItemsOf.nil _) λm r u hm C i=>?_;rw[Moved.eq_with hm]
  have ea:r=h.toArray:=by
   apply Array.ext_getElem?;intro j
   by_cases G:j<r.size
   ·have q:=N' i r G;rw[NH G,Dx,q]
   ·rw[II (hP G),Dx,NW (by have:=i.1;exact Nn zE4 (hP G))]
  rw[ea]at C;refine hR m.heap d m.toks h u str (λb o c e=>hm.heap b o (λy=>?_) (k2 b o c e)) C
  show Mw y z
  ·exact c z
  ·rw[gF z]at e;exact absurd gV (NZ.mpr hI)
 refine Na (N0 (Qqb ⟨o,F _ _ Z,J.1⟩ ?_));refine OF (λ_=>?_) (λ_=>Nh ⟨Dk IQ _,key Y l st (λb o _ e=>F b o e) p⟩);refine Na (De (Na ?_));show wpAny _ _ (updateSeq N (·.push .none)>>=λ_=>updateSeq N (·.pop)) _ _ _;refine Na (OG p rfl ?_);have g:=Eh (Obj.mapSeq (·.push Value.none)) p rfl;refine OG (hz:=by seq_fits) g rfl ?_;have X:=Eh (Obj.mapSeq (·.pop)) g rfl;have v:∀b o,b≠N->fU Y=sO o->((Y.update N (Obj.mapSeq (·.push Value.none))).update N (Obj.mapSeq (·.pop))).get? b=sO o:=λb o c e=>(EM _ _ (EI c)).trans ((EM _ _ (EI c)).trans e);refine Nh ⟨Dk IQ _,key _ _ (W.frame 0 _ _ st λb c o e=>v b o (λz=>nf (uX z c)) e) (λb o c e=>v b o c (rE F)) X⟩
theorem QhC(y:f5)(n:c9 s S=sO o)(u:o.ExactSet)(B:uF)(z:xT)(up:Au->HH)(l:t.led=ledW w)(hz:Ha)
  (h:∀h' d tk (c:aX),c.Perm (es.toList.map (·.2))->(∀b o,fL)->jg3->jb2 c):wpAny aT A (collect (aD S)) Q E s:=by
 unfold collect;refine Na (FK (Es Yag (show wpAny _ _ (do again (.builtin "list.__iadd__" ⟨[<-newList [],aF S],[]⟩)) _ _ s from ?_)));refine Na (FY (Nh ⟨Ig _ cF,js1⟩));have m:=NC n;rw[Et F.plain_list_iadd _]
 have fin:∀(r:Result) (g:Shared),(r=.ok (.ret d8)/\∃h' d tk,∃c:aX,∃i,c.Perm (es.toList.map (·.2))/\(∀b o,fL)/\xY h' s=TQ c i/\zY2)->(match r with
   | .ok (.ret v)=>wpAny aT A (match v with
    |aF a=>do
     match (<-load a).data with
     |.seq p _=>pure p.toList
     |_=>R8
    |_=>R8) Q E g
   |.ok _=>False
   |.error e=>E e g):=by
  rintro r g ⟨rfl,h',d,tk,c,i,str,k,hN,rfl⟩
  show zS7 c;exact Nh (h h' d tk c str k (Nw (NC hN)))
 refine N8 (QkB (A:=A) (s:={ s with heap:=s.heap.push (lsO #[] 0) }) (R:=λr g=>r=.ok (.ret d8)/\∃h' d tk,∃c:aX,∃i,c.Perm (es.toList.map (·.2))/\(∀b o,fL)/\xY h' s=TQ c i/\zY2) y (Nl _ n) u B z up l (EC m) d8 0 ze5 hz λh' d tk c i str k hN=>⟨rfl,h',d,tk,c,i,str,λb o e=>k b o (NB gV) w6,hN,rfl⟩) ?_ ?_
 ·intro f g q;cases f with
  |done f=>exact zj1
  |again i=>exact⟨q.1,DN q.2 λr j x=>fin r j x⟩
 ·intro e g q;exact zj1
#print "-"
theorem U4:∀(ks a:aO),zQ4:=by
 intro ks
 induction ks with
 |nil=>
  intro a _ _ h;rw[C8]
 |cons k r f=>
  intro a b c h;have e:=c k NF;show zS8 e f d
  ·exact(I0 (λz=>b.1 (uX z d))).mpr (c x (NA _ d))
  ·rw[Ih e,h];rfl
section
variable{prog:Program}{w:World}{A:Around}{E:bJ}{s:Shared}
theorem QkZ{h:Heap}{a:Addr}{led:Bool}{es:pF}(h1:ElemsOf (strKind prog w) es.toList)(o:ks.Nodup)(n:es.size=ks.length)(m:∀k,k∈ks↔∃e∈es.toList,R7)(p:b.Perm (es.toList.map (·.2))):∃l,StrsAre b l/\zZ l:=by
 have d:∀v∈b,∃x c,v=.str x c:=λv d=>by
  obtain⟨e,i,rfl⟩:=NI.mp (p.mem_iff.mp d);obtain⟨⟨k,g,_⟩,_⟩:=h1 e i;obtain⟨c,j⟩:=Li g;exact⟨k,c,j⟩
 refine⟨b.map strOf,strsAre_map b d,U4 ks _ o (λk g=>?_) ?_⟩
 ·obtain⟨e,i,f⟩:=(m k).mp g;obtain⟨c,j⟩:=Li f;exact NI.mpr ⟨e.2,p.mem_iff.mpr (NI.mpr ⟨e,i,rfl⟩),by rw[j];rfl⟩
 ·rw[Ny,p.length_eq,Ny,NP,n]
theorem Qji{t:SetTable}(b:t.fits n=true)(c:n<=1):HH:=λi j d a=>by
 rw[QcP b]at a;omega
theorem QgR(r:f5)(hS:SetL prog w s.heap S ks BU)(hz:ks.length<=sizeLine)
  (h:∀h' d tk f,(∃m,StrsAre f m/\zZ m)->(∀b o,fL)->jg3->jb2 f):wpAny aT A (collect (aD S)) Q E s:=by
 obtain⟨o,B,C,t,v,q,u,j,x,l,e,g,i,n,c⟩:=hS;refine QhC r v q u l (λz=>?_) e (by rw[n];exact hz) λh' d tk f p=>h h' d tk f (QkZ (h:=s.heap) (a:=S) (led:=true) j i n c p)
 show i7 z
 ·show hZ g y
  ·exact Qji l (Nw (Np (Nt y) aE))
  ·show bK z y
 ·exact Qji l z
theorem sortedS'(x:f5)(hS:SetL prog w s.heap S ks BU)(hz:ks.length<64)
  (h:∀(D:Addr) h' d tk (a:aX) (j:aO) c,StrsAre a j->zZ j->sortedS j=true->(∀b o,fL)->zx1->oX D=TQ a c->Q (aD D) { s with heap:=h',drawn:=d,toks:=tk }) :
  wpAny aT A (call S9 [aF S]) Q E s:=by
 show zl7;refine Na (m:=zs2) (Nh (Na (QgR (eC x) hS (by rw[DL];exact Nw (NT hz aE)) λp d tk a str t n=>?_)));obtain⟨j,st,pm⟩:=str;have i:zd4:=by rw[Lp st,pm.length_eq];exact hz
 refine Na (FY ?_ (by rw[DL];exact Nw (NT i aE)));have f:(p.push (pC a)).get? p.objs.size=sO (pC a):=dF;refine Na (N0 (Ej O3 (gN f) OH (list_sort_treeK (κ:=PyProof.Rows.strKind) strKind_oneLt f st.keysOf (λr q rest e=>keyKind_strs (by rw[<-e];exact st)) i λg G F=>Bb) (O4 _)));obtain⟨l,C,B,z⟩:=sorted_out_str st G F;obtain⟨c,y⟩:=sortedHeap_at (out:=(arrOf g).map (·.2)) f;refine Nh ⟨_,rfl,h p.objs.size _ d tk ((arrOf g).map (·.2)).toList l c C (B.trans pm) z (jZ b o e) n ?_⟩
 ·have u:=Nl (pC a) (rE t);rw[sortedHeap_old (NB (NC (rE t))) (NC u)];exact u
 ·rw[D9];exact y
#print "-"
#print "-St"
namespace Sb
open SetTable L2
noncomputable def uq[Bt a](l:cE a):cE a:=zT9
section
variable{α:Type}[Bt α]
theorem Qe5(l:cE α)(x:α):uq (l++[x])=if x∈uq l then uq l else uq l++[x]:=by unfold uq;rw[FE];rfl
theorem QiD{P:cE α->Prop}(h0:P [])(h1:∀l x,P l->P (l++[x]))(l:cE α):P l:=by
 have:∀(n:Nat) (l:cE α),BA->P l:=by
  intro n
  induction n with
  |zero=>intro l h;rw[C8];exact h0
  |succ n a=>
   intro l h;obtain⟨u,x,rfl⟩:Tj:=⟨l.dropLast,l.getLast (λz=>by show bK z h),M7⟩
   exact h1 u x (a u RO)
 exact this _ l rfl
theorem Qm9(l:cE α):(uq l).length<=l.length:=by
 induction l using QiD with
 |h0=>exact Nv _
 |h1 l x a=>
  rw[Qe5,NK,Ei];split
  ·exact Nn a cJ
  ·rw[NK,Ei];exact E5 a _
#print "-"
#print "-Sb"
namespace Si
open Sb
section
variable{prog:Program}{w:World}{A:Around}{R:Result->eA}{I:Addr}{fp wr:gO}{G:B4->B4->Prop}{n:Nat}{P:Nat->yY}{St':Nat->eA}
theorem QmV(W:zZ4)(S:Addr)(f:S∉fp)(led:Bool)(l:dO)(F:BA)(E:∀i v,P i v->∃x c,l[i]?=sO x/\v=.int x c)(N:n+1<scanBound) :
  ∀(k i:Nat) (s:Shared),n-i=k->i<=n->St' i s->SetI prog w s.heap S (uq vG) led ->
   (∀a,Moved (S::wr) G s a->SetI prog w a.heap S (uq l) led->R (.ok oA) a) ->
   codeAny aT A (.builtin "set.update.loop" ⟨[aF S,aF I],[]⟩) R s:=by
 show zO7
 induction k with
 |zero=>
  show T';obtain rfl:i=n:=aQ
  show So;show wpAny _ A.in1 (pyNext (aD I)>>=_) _ _ s;show zP8;exact Rr
 | succ k C=>
  show T';have lt:i<n:=aQ
  show So;show wpAny _ A.in1 (pyNext (aD I)>>=_) _ _ s;refine Na (W.item i s _ _ lt st λv a L g d=>?_);obtain⟨x,c,D,rfl⟩:=E i v L;have r:SetI prog w a.heap S (uq vG) led:=Rr;show wpAny _ A.in1 (holding [Value.int x c] (setAdd S sR)>>=_) _ _ a;refine Na P9;unfold setAdd;refine N0 (Na ((intKind prog w).pyHash (k:=x) (intKind_is prog w x c) ?_))
  have room:(uq vG).length+1<scanBound:=by
   have:=Qm9 vG;rw[E3]at this;lia
  refine Qs1 (s:={ a with toks:=a.toks+1 }) r room (eE b M y p)
  have m:SetI prog w M S (uq (l.take (i+1))) led:=by
   rw[Dq,D,Di,Qe5];exact p
  refine Nh ⟨Dk Dn _,C (i+1) _ aH lt (W.frame _ a _ _ g (Ff _) (eE b z o e)) m (aM h j q)⟩
  ·exact(y.2 b (λu:b=S=>f (uX u z))).trans e
  ·refine t h zO5 q;exact(y.2 b (λu:b=S=>yF z u)).trans e
#print "-"
section
variable{prog:Program}{w:World}{A:Around}{E:bJ}{s:Shared}
theorem U1(e:cQ a=sO (St.emptySet b)):SetI prog w h a [] b:=
 ⟨_,#[],0,_,e,AR,rfl,λx c=>gL c,d5,rfl,rfl,⟨λi j f d=>by exact pX d,rfl⟩,Ez,rfl,λk=>aP⟩
theorem Qqe{Q:bJ}(N:f5)(M:AB)(D:u.length=items.size)(L:∀(i:Nat) (v:Value),Ps u)(O:xH)
  (h:∀(h':Heap) (tk:Nat),Pp u->(∀b o,pE->fL)->Q d8 { s with heap:=h',toks:=tk }) :
  wpAny aT A (Builtin.«set.__init__» ⟨[eZ s,aF l],[]⟩) (λfin y=>fin=.done oA/\Q d8 y) E { s with heap:=s.heap.push gG }:=by
 have hS:(s.heap.push gG).get? s.heap.objs.size=sO gG:=dF;have hT:Shared.TypeIs { s with heap:=s.heap.push gG } d8 "set":=yL
 show Ts M;show Px I;have g:(s.heap.push gG).get? l=sO { cls:=dE,dict:=f,data:=TX,slots:=a }:=Nl _ j;have n:(s.heap.push gG).IsList l items:=S7
 have Z:=F.sub_list_set;have Y:=Yac;have X:(zB0==SI)=false:=d5
 show Pe H;refine FB n Uf;show AJ m j;have d:(s.heap.push gG).objs.size=xX:=DK _ _;have C:l≠(s.heap.push gG).objs.size:=RI
 have J:s.heap.objs.size∉[(s.heap.push gG).objs.size,l]:=by
  show Pk
 refine QmV ((Yad (show rV by simp[N]) _ l C items).toS) s.heap.objs.size J zb2 u D L O B3 0 _ rfl gX ⟨⟨_,dF,rfl,rfl⟩,n.push _⟩ (U1 zh5) (aM y r G);show c7 h' P U t z y;have S:P=s.gens:=r.gens;show PV T U r R S;refine PK t G;show Pf r
#print "-"
theorem U4[BEq d][LawfulBEq d]:∀(ks a:cE d),zQ4:=by
 intro ks
 induction ks with
 |nil=>
  intro a _ _ h;rw[C8]
 |cons k r g=>
  intro a b c h;have f:=c k NF;show zS8 f g e
  ·exact(I0 (λz=>b.1 (uX z e))).mpr (c x (NA _ e))
  ·rw[Ih f,h];rfl
theorem ints_len:∀{a:aX} {ns:dO},BJ a->a.length=ns.length
 |_,_,.nil=>rfl
 |_,_,.cons n t h=>by rw[NQ,NQ,ints_len h]
#print "-Si"
namespace L2
def RawD(h:Heap)(d:Addr)(es:Tf)(ep:Nat):Prop:=∃o,cQ d=sO o/\o.ExactDict/\Ss
theorem RawD.typeIs{s:Shared}(m:AI):s.TypeIs (aD d) "dict":=by obtain⟨o,a,b,_⟩:=m;exact⟨o,a,b.1⟩
theorem RawD.lt(m:M8 h):d<h.objs.size:=by obtain⟨_,a,_⟩:=m;exact NC a
theorem RawD.at(m:M8 h)(k:∀o,lP d o):M8 h':=by show fT o a r m;exact⟨o,k o a,r⟩
section
variable{prog:Program}{w:World}{A:Around}{E:bJ}{s:Shared}{it d:Addr}{es:Tf}{i ep:Nat}
theorem Qh8(hd:CM)(m:AI)
  (q:Q d8 { s with heap:=s.heap.push { cls:=.type "dict_keyiterator",data:=.fields #[aF d,qY,.int es.size 0,zj0] } }):wpAny aT A (pyIter (aD d)) Q E s:=by
 have a:=m.typeIs;show iO o c e b m;refine LY a OT (Ej OT a PySem.F.entry_dict_iter ?_ (PySem.F.args_dict_iter_1 _));unfold Builtin.«dict.__iter__» Builtin.Dict.dictSlotNone;refine Na (Na (FO a ?_));refine(show wpAny _ _ (pure (qW d)) _ _ s from Nh ?_);refine(show wpAny _ _ (Builtin.Dict.showsAll d>>=_) _ _ s from ?_);unfold Builtin.Dict.showsAll;rw[if_neg (by rw[hd];exact Ea)];refine Na (Nh (Na (FG c b (Na (DY c b ?_)))));refine Na (Eo (Nh ⟨_,rfl,"dict_keyiterator",_,⟨_,dF,rfl⟩,E1.lookup,?_⟩));simpa[rawInt]using q
theorem Qh6(hit:s.heap.IsKeyIter it d i es.size ep)(m:AI)(f:i<es.size)
  (j:∀h',h'.IsKeyIter it d (i+1) es.size ep->zw4 h'->Q (sO es[i].key) { s with heap:=h' }):wpAny aT A (pyNext jU) Q E s:=by
 show TY e h;show zL9 b g c e
 show zM0 b c;rw[if_neg aB];refine Na (Nh (Na (DY b c ?_)));rw[if_neg aB];refine Nh ?_;simp only[show¬(fQ<0)from aQ,if_false,Ec,NH f];show tX
 first|refine Na (DG hit.typeIs jg4)|refine Na (Fi hit.typeIs jg4)
 refine(show wpAny _ _ (setField jU 1 (rawInt (fQ+1))>>=_) _ _ s from Na (Dl e hd aB ?_))
 have a:(s.heap.update it (Obj.mapFields (·.setIfInBounds 1 (rawInt (fQ+1))))).IsKeyIter it d (i+1) es.size ep:=
  ⟨_,Eh _ e (O5 (Ij hd _)),(YaV ..).trans h,jo1⟩
 refine Na (N0 (Na (IR (s:={ s with heap:=s.heap.update it (Obj.mapFields (·.setIfInBounds 1 (rawInt (fQ+1)))) }) a.typeIs ?_)));refine(show wpAny _ _ (pure es[i].key) _ _ _ from ?_);exact Nh (Nh ⟨_,rfl,Nh (j _ a nJ)⟩)
theorem Qkl(g:f5)(hit:s.heap.IsKeyIter it d es.size es.size ep)(m:AI)
  (j:∀h',js3->zs9):wpAny aT A (pyNext jU) Q E s:=by
 show TY f n;show zL9 c h e f
 show zM0 c e;rw[if_neg aB];refine Na (Nh (Na (DY c e ?_)));rw[if_neg aB];refine Nh ?_;simp only[show¬((es.size:Int)<0)from aQ,if_false,Ec,II (Nv es.size)];show tX
 first|refine Na (DG hit.typeIs fP)|refine Na (Fi hit.typeIs fP)
 refine(show wpAny _ _ (setField jU 0 .none>>=_) _ _ s from Na (Dl f hd aB ?_));refine(show wpAny _ _ (jd4>>=_) _ _ _ from Na ?_);show zV0;refine Na (m:=firstArgMember _ _) (Lw (a:=Value.none) zT8 ?_);refine Eo ?_ zF0;show ju5;rw[show rV from g];refine js0;refine Na (FR (b:=true) (T:="StopIteration") ⟨_,dF,rfl⟩ isSubtype_stop ?_);exact Nh (j _ jc4)
theorem Qe3(q:f5)(I d:Addr)(j:d≠I)(es:Tf)(ep:Nat) :
  Walks prog w A I [I,d] [I] es.size ja0 (λi h=>h.IsKeyIter I d i es.size ep/\M8 h) where
 sub:=jk6
 frame:=λ_ _ _ st n=>⟨st.1.at λo e=>n I aB o e,st.2.at λo e=>n d aB o e⟩
 item:=λi s Q E p st g=>Qh6 st.1 st.2 p λm f c=>
  g _ m s.toks ⟨es[i],NH p,rfl⟩ ⟨f,st.2.at λo e=>(c.2 d j).trans e⟩ λb o a e=>c.extBut b o (λh=>a (eC h)) e
 done:=λs Q E st g=>Qkl q st.1 st.2 λm l=>g m s.toks λb o a e=>l b o (λh=>a (eC h)) e
 self:=λ_ _ _ _ st g=>wpAny_pyIter_keyiter st.1 g
theorem Qb8(lo:CM):PySem.W.KdlSrc prog w "dict" d d es.size ja0 (λh=>M8 h) where
 type:=λ_ m=>m.typeIs
 there:=λ_ m=>⟨m.lt,m.lt⟩
 keep:=λ_ _ m k=>m.at λo e=>k d fA o e
 notList:=d5
 notTuple:=d5
 hint:=λ_ _ _ _ m q=>PySem.W.kdl_hint_dict m.typeIs q
 iter:=λ_ _ a m=>⟨_,_,(λ_ _ q=>Qh8 lo m q),Qe3 a _ d (NB m.lt) es ep,⟨⟨_,dF,rfl,rfl⟩,m.at λo e=>Nl _ e⟩⟩
#print "-"
#print "-L2"
namespace Mi
open L2
noncomputable def TrH(K:Ng)(H:Hp):Nat->Tr->V->Prop
 |0,_,_=>False
 |_+1,.i k,v=>v=aC k\/∃b:Bool,v=.bl b/\k=if b then 1 else 0
 |_+1,.s x,v=>v=c4 x
 |n+1,.t ks,v=>∃a xs,v=aF a/\BG H/\Paired (TrH K H n) ks xs
theorem Qla{F:j->i->Prop}{G:i->h->Prop}{M:j->h->Prop}(f:∀a b c,F a b->G b c->M a c){g:cE j}{e:cE i}{d:cE h}(p:Paired F g e)(q:Paired G e d):Paired M g d:=by
 induction p generalizing d with cases q
 |nil=>exact .nil
 |cons a s l=>exact .cons (f _ _ _ a ‹_›) (l ‹_›)
section
variable{X:Cx}{pins:bT}{σ:L2.St}{H:Hp}{s:Shared}
theorem QkM(I:bW):∀{n:Nat} (k:Tr) (v:V) (u:Value),TrH X.K H n k v->cU v->Bu k u
 |0,_,_,_,x,_=>x.elim
 |n+1,.i k,v,u,x,r=>by
  rcases x with rfl|⟨b,rfl,f⟩
  ·exact eH r
  ·exact .inr ⟨b,r,f⟩
 |n+1,.s y,v,u,x,r=>by
  cases(show v=c4 y from x);exact r
 |n+1,.t ks,v,u,x,r=>by
  obtain⟨a,xs,rfl,q,p⟩:=x;obtain⟨c,d,e,_⟩:=eR q;cases(show u=fJ a from r);exact⟨a,c.toArray,rfl,e,by simpa using Qla (λk v u h g=>QkM I k v u h g) p d⟩
#print "-"
section
variable{K:Ng}{R:Rn}{h:MH}{H:Hp}
theorem Qmj(l:eG):∀(n:Nat) (w:W) (v:V) (k:Tr),fI->UO n w=sO k->TrH K H n k v
 |0,_,_,_,_,e=>by simp[UO]at e
 | n+1,w,v,k,r,e=>by
  cases w with
  |int i=>show Mx;cases e;exact .inl r.int_eq
  |bl b=>show Mx;cases e;exact .inr ⟨b,r.bl_eq,rfl⟩
  |str x=>show Mx;cases e;exact r.str_eq
  | tup ws=>
   show Mx;obtain⟨ks,f,g⟩:=kS e;subst g;obtain⟨a,j,rfl,q,d⟩:=l.tupAt r;refine⟨a,j,rfl,q,?_⟩;clear e r q
   induction ws generalizing ks j with
   |nil=>
    show iD d;rw[Yaq]at f;cases(show sO []=sO ks from f);exact .nil
   |cons x ws t=>
    rw[Ir]at f;show dJ m z g f;show dJ c u A g;cases(show sO (m::c)=sO ks from A);show i3 d y o s p;exact .cons (Qmj l n x y m s z) (t c u o p)
  |_=>simp[UO]at e
theorem QeB(a:eG)(r:fI)(e:zf6):TrH K H 8 k v:=by
 cases w with
 |tup b=>exact Qmj a 8 _ v k r e
 |_=>cases e
theorem Qj9(b:eG)(r:fI)(e:zf6):∃a,v=aF a:=by
 cases w with
 |tup d=>obtain⟨a,c,rfl,_⟩:=b.tupAt r;exact⟨a,rfl⟩
 |_=>cases e
#print "-"
noncomputable def Y7(kvs:kH)(k:Tr):bY:=(kvs.find? λp=>decide (tQ=sO k)).map (·.2)
noncomputable def Qcg(kvs:kH)(k:Tr)(a v:W):kH:=if zC2=true then kvs.map (λp=>if tQ=sO k then(p.1,v)else p)else kvs++[(a,v)]
noncomputable def QgK(kx:gB)(k:Tr):j2 V:=(kx.find? (jQ p k)).map (·.2.2)
noncomputable def QcF(kx:gB)(k:Tr)(b:Addr)(v:V):gB:=if zC3=true then kx.map (λp=>if p.1=k then(p.1,p.2.1,v)else p)else kx++[(k,b,v)]
noncomputable abbrev DctR(K:Ng)(R:Rn):kH->gB->Prop:=Paired λp q=>Pj
noncomputable abbrev Qdj:gB->uC->Prop:=Paired λp q=>zY7
section
variable{K:Ng}{R:Rn}
theorem Qe2{kvs:kH}{kx:gB}(d:Tk):(Y7 kvs k=nO/\QgK kx k=nO)\/∃w v,Y7 kvs k=sO w/\QgK kx k=sO v/\fI:=by
 induction d with
 |nil=>exact .inl gD
 |@cons p q ps b h t a=>
  show wE q
  ·exact .inr ⟨p.2,q.2.2,by simp[Y7,N9,h.2.1,e],by simp[QgK,N9,e],h.2.2⟩
  ·simpa[Y7,QgK,N9,e,h.2.1]using a
theorem GU(d:Tk):zC2=zC3:=by
 rcases Qe2 (k:=k) d with z|⟨w,v,b,a,_⟩
 ·rw[z.1,z.2];rfl
 ·rw[b,a];rfl
theorem Qb2(d:Tk)(rk:Rw K R a (aD b))(c:nrm a=sO k)(r:fI):DctR K R (Qcg kvs k a w) (QcF kx k b v):=by
 unfold Qcg QcF;rw[GU d];split
 ·rename_i g;clear g rk c
  induction d with
  |nil=>exact .nil
  |@cons p q ps i h t f=>
   show zJ7 f
   show wE q
   ·rw[bH e,if_pos (by rw[h.2.1,e])];exact⟨h.1,h.2.1,r⟩
   ·rw[bQ e,if_neg (by rw[h.2.1];exact λz=>e (N2 z))];exact h
 ·exact OP d ⟨rk,c,r⟩
theorem QfK{kx:gB}{xs:uC}(r:BQ):RelO (QgK kx k) ((atKey xs k).map (·.2)):=by
 induction r with
 |nil=>exact True.intro
 |@cons p q ps c h t b=>
  show wE p
  ·have a:q.1=k:=h.1.symm.trans e;simpa[QgK,atKey,N9,e,a,RelO]using h.2.2
  ·have a:¬q.1=k:=λz=>e (h.1.trans z);simpa[QgK,atKey,N9,e,a]using b
theorem GW(d:BQ):zC3=(atKey xs k).isSome:=by
 have:=(QfK (k:=k) d).isSome_eq;rwa[D4]at this
theorem Qbx(d:BQ)(r:cU v):Qdj (QcF kx k b v) (storedH xs k b u):=by
 unfold QcF storedH;rw[GW d];split
 ·rename_i c;clear c
  induction d with
  |nil=>exact .nil
  |@cons p q ps f h t a=>
   show zJ7 a;unfold YaX
   show wE p
   ·rw[bH e,if_pos (h.1.symm.trans e)];exact⟨h.1,h.2.1,r⟩
   ·rw[bQ e,if_neg (λz=>e (h.1.trans z))];exact h
 ·exact OP d ⟨rfl,rfl,r⟩
theorem GR:(QcF kx k b v).length<=kx.length+1:=by
 unfold QcF;show S5
 ·rw[NK];simp
#print "-"
section
variable{X:Cx}{pins:bT}{σ:L2.St}{H:Hp}{s:Shared}{R:Rn}{h:MH}
theorem WH(I:bW)(c:kG)(f:xS) :
  ∃kx xs,H iA=zc7/\DctR X.K R kvs kx/\kx.length<=sizeLine/\(p4==sysModules)=false/\BQ/\s.heap.DictOfH (QA X.prog X.w) iA xs:=by
 obtain⟨kx,b,j⟩:=nN c f;obtain⟨z,y,xs,r,o,B,C,A,v,u,i,g,_⟩:=I.hok _ _ b;refine⟨kx,xs,b,j,z,y,r,o,B,C,A,v,u,i,?_,g⟩;clear i g z b f
 induction r generalizing kvs with
 |nil=>intro x a;exact nomatch a
 | @cons p q ps E d t m=>
  cases j with
  |cons l D=>
   intro x a
   rcases NM.mp a with e|a
   ·subst e;have:=QkM I _ _ _ (QeB c l.1 l.2.1) (show RelV (.ref p.2.1) (Value.ref p.2.1)from rfl);rw[d.1,d.2.1]at this;exact this
   ·exact m D x a
def DctE(prog:Program)(w:World)(h:Heap)(d:Addr)(xs:uC):Prop:=
 ∃o a b,cQ d=sO o/\o.ExactDict/\o.data=.dict a b/\a.toList=xs.map RB/\(∀x∈xs,AD h x)/\(xs.map (·.1)).Nodup/\b=a.size
theorem DctE.of{h:Heap}:DctE prog w h d xs->h.DictOfH zb3 d xs:=λz=>by
 obtain⟨o,i,j,g,f,e,c,b,a,_⟩:=z;exact⟨o,i,j,g,f,e,c,b,a⟩
theorem Qf9(I:bW)(g:kG)(i:xS) :
  ∃kx xs,H iA=zc7/\DctR X.K R kvs kx/\kx.length<=sizeLine/\(p4==sysModules)=false/\BQ/\DctE X.prog X.w s.heap iA xs:=by
 obtain⟨kx,xs,e,B,A,z,y,o,l,p,d,x,c,v,u,t⟩:=WH I g i;obtain⟨_,_,f,r,C,j,m,b,F,a,E,D,q⟩:=I.hok _ _ e;show bK d b;show bK c a;exact⟨kx,xs,e,B,A,z,y,o,l,p,d,x,c,v,u,t,q⟩
theorem U7(I:bW)(a:kG)(r:fC w v)(c:cU v)(e:zf6):∃b,v=aF b/\u=aF b/\(QA X.prog X.w).is s.heap k b:=by
 obtain⟨b,rfl⟩:=Qj9 a r e;cases(show u=fJ b from c);exact⟨b,rfl,rfl,QkM I _ _ _ (QeB a r e) (show RelV (aD b) (qW b)from rfl)⟩
theorem Qa7(I:bW)(e:H a=zc7)(z:c.length<=sizeLine)(lo:xK)(r:Qdj c b)
  (f:lS a) (dd:DctE X.prog X.w h' a b):Inv X pins σ (upd H a (.dT c)) { s with heap:=h',toks:=t' }:=by
 obtain⟨o,n,p,d,m,l,j,_,i,g⟩:=dd;exact Qbv I (zv3 e) f (fF o d) ⟨z,lo,b,r,o,n,p,d,m,l,j,i,g⟩
#print "-"
noncomputable def Qah(h:MH):W->Option (List (W×W))
 |aF n=>match h[n]? with|some (.dct kvs)=>sO kvs|_=>nO
 |_=>nO
theorem Ks(e:Qah h a=sO kvs):∃n,a=aF n/\xS:=by
 cases a with
 |ref n=>
  simp only[Qah]at e;split at e
  ·show lE c b e;exact⟨n,rfl,b⟩
  ·cases e
 |_=>cases e
noncomputable def QfU:ME:=λ_ h=>sO (eX,h++[oV])
noncomputable def Qc4(neg:Bool)(b a:W)(h:MH):bF:=(Qah h a).bind λc=>(nrm b).map λk=>(.bl (if neg then !(Y7 c k).isSome else(Y7 c k).isSome),h)
noncomputable def KJ(a b v:W)(h:MH):Option MH:=match a with
 |aF n=>match h[n]? with
  |some (.dct c)=>(nrm b).bind λk=>if c.length<sizeLine then sO (h.set n (.dct (Qcg c k b v)))else nO
  |_=>nO
 |_=>nO
noncomputable def Qbi(mo mi mv:ME):SM:=λa h=>(mv a h).bind λv=>(mo a v.2).bind λo=>(mi a o.2).bind λi=>(KJ o.1 i.1 v.1 i.2).map λb=>.nx a b
noncomputable def QtQ(a:W)(ws:aI)(h:MH):bF:=match ws with
 |[b,v]=>(Qah h a).bind λc=>(nrm b).bind λk=>match Y7 c k with
  |dY x=>d7 x h
  |none=>(KJ a b v h).map λd=>(v,d)
 |_=>nO
noncomputable def YR(ws:aI)(h:MH):bF:=match ws with
 |[a]=>(Qah h a).map λb=>(.lst (b.map (·.1)),h)
 |_=>nO
section
variable{prog:Program}{w:World}{A:Around}{E:bJ}{s:Shared}{d a:Addr}{k:Tr}{xs:uC}
theorem QqF{dflt:Value}(q:(QA prog w).room A)(b:xP k a)(u:zt9)(hsz:rR)
  (h1:∀p,atKey xs k=sO p->Q p.2 { s with toks:=pA })
  (h2:atKey xs k=nO->∀h',DctE prog w h' d (storedH xs k a dflt)->lS d->Q dflt { s with heap:=h',toks:=pA }):wpAny aT A (dictSetDefault d (aD a) dflt) Q E s:=by
 obtain⟨o,C,z,f,v,hd,l,i,m,t⟩:=u;unfold dictSetDefault;refine N0 (Na ((QA prog w).pyHash q b (Na (wpAny_dictFind_heap (s:={ s with toks:=pA }) q b f hd l i m ?_ ?_))))
 ·show zQ6 h g;refine Na (De (Na (Yai (hz:=jh8 l) (s:={ s with toks:=pA }) f hd (Nh (h2 en _ ⟨_,_,z+1,Eh _ f (Lk (FT hd _)),v.mapDictKeys _,FT hd _,?_,?_,?_,vE t⟩ nJ)))))
  ·rw[IJ en];simp[l,entryOfKey]
  ·show zO0 i
   ·cases gF c;exact(QA prog w).keeps b f hd nJ
  ·rw[IJ en,Ey,Ew];exact⟨m,aP,zV1 n g⟩
 ·intro j p r;refine Na (FG (s:={ s with toks:=pA }) f hd ?_);rw[entry_at l j,r];exact Na (De (Nh (h1 p (atKey_of_get m r))))
theorem W7(u:(QA prog w).room A)(b:xP k a)(F:zt9)(hsz:rR)
  (h:∀h',jb3->lS d->Q () { s with heap:=h',toks:=pA }):wpAny aT A (dictSet d (aD a) v) Q E s:=by
 obtain⟨o,G,D,f,C,hd,r,g,n,z⟩:=F;unfold dictSet;refine N0 (Na ((QA prog w).pyHash u b ?_));unfold dictSetHashed;refine N0 (Na (wpAny_dictFind_heap (s:={ s with toks:=pA }) u b f hd r g n ?_ ?_))
 ·show zQ6 m i;refine Na (De (Yai (hz:=jh8 r) (s:={ s with toks:=pA }) f hd (h _ ⟨_,_,D+1,Eh _ f (Lk (FT hd _)),C.mapDictKeys _,FT hd _,?_,?_,?_,vE z⟩ nJ)))
  ·rw[IJ en];simp[r,entryOfKey]
  ·show zO0 g
   ·cases gF c;exact(QA prog w).keeps b f hd nJ
  ·rw[IJ en,Ey,Ew];exact⟨n,aP,zV1 q i⟩
 ·intro j p B;have t:=atKey_of_get n B;refine Na (De (Na (wpAny_updateDict (s:={ s with toks:=pA }) f hd (wpAny_point (h _ ⟨_,_,D,Eh _ f (Lk (Ya4 hd _)),C.mapDict _,Ya4 hd _,?_,?_,?_,vE z⟩ nJ)))))
  ·rw[zK7];have:=modify_map_putAt RB (λe:DictEntry=>{ e with val:=v }) k v Bh n B;rw[<-r]at this;obtain⟨l⟩:=G;show j8
  ·rw[zK7];intro x c;show i5 y q c;simp only[YaX];split<;>exact(QA prog w).keeps (g y q) f hd nJ
  ·rw[zK7,keys_map_putAt];exact n
theorem Qfv(f:(QA prog w).room A.in1)(b:xP k a)(c:zt9)(hsz:rR)
  (h:∀h',jb3->lS d->Q () { s with heap:=h',toks:=pA }):wpAny aT A (setItem (aD d) (aD a) v) Q E s:=by
 have ty:=c.of.typeIs;unfold setItem;refine N0 (Na (LS ty aE (Na (EG (name:=Str.ofString "__setitem__") ty slot_dict_setitem (Ej slot_dict_setitem ty entry_dict_setitem ?_ (args_dict_setitem _ _ _))))));refine(show wpAny _ _ (Builtin.Dict.notOrdered "__setitem__" ⟨[aF d,aF a,v],[]⟩>>=_) _ _ s from Na (FO ty ?_));exact(show wpAny _ _ (dictSet d (aD a) v>>=_) _ _ s from Na (W7 f b c hsz λh' m e=>Nh ⟨.none,rfl,Nh (h h' m e)⟩))
#print "-"
section
variable{X:Cx}{o i e a b:Expr}{mo mi mv ma mb:ME}{pos pos':Pos}
theorem Qfy:PM X Sz QfU:=ZH QiB λn H Q q=>by
 obtain⟨R,f,h,w,s,j,st,e,k⟩:=q;cases e;intro p l;obtain⟨m,g,d,c⟩:=j.new (mo:=oV) (o:=.dT []) l λt r=>zA8
 exact k4 m g d c
theorem Qiw(c:gH):(QA X.prog X.w).room X.A.in1:=by show yZ+8<cLine;lia
theorem QjF(t:gH):OpR X T6 (F2 X.K (Qc4 false)):=by
 intro g s L H x y v u Q I m l j;obtain⟨R,h,a,b,w,S,d,q,f,e,k⟩:=j;unfold Qc4 at e;show dJ r G F e;show eD O E D F;show zg3 B G;obtain⟨N,M,P,J,z,lo,p,dd⟩:=WH I d B;obtain⟨c,rfl,rfl,C⟩:=U7 I d q m E;show dW f;obtain⟨_,rfl⟩:=f;show lQ u l;refine wpAny_in_heap (Qiw t) C lo dd ?_;rw[<-GW p,<-GU J];exact⟨.bl _,H,hG,rfl,k R H _ bV d i9⟩
theorem U6(t:gH):OpR X zx8 (F2 X.K Mg):=by
 intro g s L H x y v u Q I m l j;obtain⟨R,h,a,b,w,S,d,q,f,e,k⟩:=j;unfold Qc4 at e;show dJ r G F e;show eD O E D F;show zg3 B G;obtain⟨N,M,P,J,z,lo,p,dd⟩:=WH I d B;obtain⟨c,rfl,rfl,C⟩:=U7 I d q m E;show dW f;obtain⟨_,rfl⟩:=f;show lQ u l;refine wpAny_notIn_heap (Qiw t) C lo dd ?_;rw[<-GW p,<-GU J];exact⟨.bl _,H,hG,rfl,k R H _ bV d i9⟩
theorem Qcp{a b v:W}(e:KJ a b v h=sO h'):∃n kvs k,a=aF n/\xS/\nrm b=sO k/\Sg/\h'=h.set n (.dct (Qcg kvs k b v)):=by
 unfold KJ at e;split at e
 ·show P7 n e
  ·rename_i kvs d;show dJ k g c e;split at c
   ·show g6 f c;exact⟨n,kvs,k,rfl,d,g,f,rfl⟩
   ·cases c
  ·cases e
 ·cases e
noncomputable def QpT(K:Ng)(mo mi mv:ME):TS:=λD c H=>tI K mv c H λv m=>tI K mo c m λx l=>tI K mi c l λy j=>
 ∃R h a b w d,Rh K R h j/\zf5/\Rw K R b y/\fI/\KJ a b w h=sO d/\∀f g,kT f->Rh K f d g->D.nx c g
theorem Qsg{H:Hp}{R:Rn}{a b w:W}{x y v:V}(T:gH)(I:cI f σ)(j:kG)(C:fC a x)(B:fC b y)(rw:fC w v)
  (N:fV x r) (M:fV y J) (rv:fV v L) (e:KJ a b w h=sO h') (q:∀t G,hQ f σ G t->Rh X.K R h' G->Q () t):wpAny bU X.A (setItem r J L) Q X.xe s:=by
 obtain⟨n,O,k,rfl,Y,E,hl,rfl⟩:=Qcp e;obtain⟨l,Z,S,F,z,lo,u,dd⟩:=Qf9 I j Y;obtain⟨c,rfl,rfl,g⟩:=U7 I j B M E;show dW C;show aN m C;show lQ r N;have D:=Ef F;have d:=Ef u;refine Qfv (Qiw T) g dd (Nn (cL d) z) (aM h' p U);have P:(QcF l k c v).length<=sizeLine:=by have:=GR (kx:=l) (k:=k) (b:=c) (v:=v);lia
 exact q _ _ (Qa7 I S P lo (Qbx u rv) U p) (j.put m ⟨_,rfl,Qb2 F B E rw⟩)
theorem Qpw(hu:gH)(ho:BN)(hi:zi7)(he:zi8)(hs:zl2):PMS X Pz (Qbi mo mi mv):=by
 refine X4 (t:=QpT X.K mo mi mv) (λc s g H D I h=>?_) (eE D g H q)
 ·refine OQ (thn (he c s g H _ I h) (aM r Y p)) hs;obtain⟨v,T,I1,rv,q1⟩:=p;refine thn (ho c Y g T _ I1 q1) (aM u U p);show c7 x S I2 C q2 p;refine thn (hi c U g S _ I2 q2) λiv s3 z=>?_;obtain⟨y,H3,I3,B,R,h,a,b,w,Q,J,ra,rb,rw,e,k⟩:=z;exact Qsg hu I3 J ra rb rw C B rv e λs4 n I4 f=>⟨g,n,I4,k R n bV f⟩
 ·obtain⟨R,d,h,r,J,s,e,k⟩:=q;show dD v P e1 e2 e;obtain⟨⟨ob,O⟩,e3,e4⟩:=dH e2;show dD M N e5 e6 e4;show hV Q e7 e8 e6;subst e8;refine⟨R,d,h,v,P,J,s,e1,λR1 T x m G C=>⟨R1,d,P,ob,O,G,s.mono m,e3,λR2 S y l F B=>⟨R2,d,O,M,N,F,s.mono (dX m l),e5,λR3 H3 z j E Z=>?_⟩⟩⟩;exact⟨R3,N,ob,M,v,Q,E,sU j B,Z,Rw.mono (dX l j) _ _ C,e7,λR4 n L f=>k R4 n g (m.trans (iG l j L)) f (s.mono (m.trans (iG l j L)))⟩
theorem Gy(c:gH)(f:BN)(g:zi7)(h:zi8)(d:BB:=by rfl):PMS X Pz (Qbi mo mi mv):=Qpw c f g h (K6 d)
#print "-"
section
variable{X:Cx}
theorem Gg{K:Ng}:∀{kvs:kH} {kx:gB},Tk->Rws K R (kvs.map (·.1)) (kx.map Hm)
 |_,_,.nil=>Rws.nil
 |_,_,wJ h=>Rws.cons h.1 (Gg t)
theorem GQ:∀{kx:gB} {xs:uC},BQ->Vals (kx.map Hm) (xs.map Hm)
 |_,_,.nil=>.nil
 |_,_,wJ h=>.cons (show _=Value.ref _ from by rw[h.2.1]) (GQ t)
theorem W1(hc:fH):CallR X rZ (Fs X.K YR):=by
 intro F s σ H f us Q I r q;obtain⟨R,h,ws,w,J,D,m,e,k⟩:=q;unfold YR at e;split at e
 ·rename_i a;show eD T e1 e2 e;obtain⟨n,rfl,hn⟩:=Ks e1;show q5 y E m;show lZ N r;obtain⟨S,f,hx,dr,B,lo,C,dd⟩:=WH I D hn;show dW E;obtain⟨aa,rfl⟩:=E;show lQ u N;obtain⟨o,A,L,h1,h2,h3,G,_,h5⟩:=dd;have d:A.size=f.length:=OI G;have x:=Ef C;refine Ya5 (Qb8 (es:=A) (ep:=L) lo) uY ⟨o,h1,h2,h3⟩ (Nn (Nn (Nt d) (cL x)) B) λJ tk b c' U eL c=>?_
  have Y:Vals (S.map Hm) b.toList:=by
   have:b.toList=f.map Hm:=by
    show wF j;rw[Nq]
    by_cases i:j<f.length
    ·have g:j<b.size:=by rw[c.1];exact Ni i (cL d)
     obtain⟨e,l,z⟩:=N' c b g;rw[entry_at G j,Nj i]at l;cases l;rw[N1,NH g,z,Nj i];rfl
    ·have P:b.toList.length<=j:=by rw[NP,c.1];exact Nn (Nt d) (hP i)
     have O:f.length<=j:=by exact NZ.mp i
     rw[NW P,NW O];rfl
   rw[this];exact GQ C
  have Z:=Cy;obtain⟨R3,M,v,t⟩:=D.lstI (p:=s.heap.objs.size) Z (Gg dr);refine⟨eZ s,_,I.laid (t':=tk) U c8 (zO8 J B Y),rfl,k4 R3 M v t⟩
 ·cases e
#print "-"
#print "-Mi"
namespace L2
section
variable{X:Cx}{pins:bT}{σ:St}{H:Hp}{s:Shared}{h':Heap}{t':Nat}{ch:gO}
theorem Inv.turnedL(I:bW)(k:∀b o,wS->fL)(f:∀b∈ch,Tv)(d:∀b u,H b=sO u->i b=sO u)(x:∀b o,c9 s b=sO o->hH->i b=nO)
  (new:∀b u,hH->i b=sO u->ObjOk X.prog X.w i h' b u):Pv i:=by
 have g:∀b u,H b=sO u->wS:=λb u e z=>by rw[(f b z).1]at e;cases e
 refine I.step (g':=s.gens) (d':=s.drawn) (ch:=ch) (λb h=>zR0 f h) (λb o _ _ a e _=>k b o a e) (λb o _ _ a e _=>⟨o.slots,k b o a e⟩) (λb o _ e n=>x b o e n)
  (λb o a e=>⟨o,k b o a e⟩) (λb j e=>d b _ e) (λb o u e=>d b _ e) (λb ps e=>⟨#[],by rw[d b _ e];simp⟩) (λm y=>?_) (jZ b u e) I.bare
 ·show c7 o A B t r y;exact⟨o,A,B,k _ o (λz=>(f _ z).2.1 rfl) t,r⟩
 ·cases q:H b with
  |none=>exact new b u q e
  |some l=>
   rw[d b l q]at e;cases e;refine(I.hok b _ q).stay (zI9 a p) (λc z=>d c _ z) λc j z=>d c _ z
   show hZ a z
   ·rw[z];exact g b _ q
   ·exact g c _ z
theorem Inv.turnedN(I:bW)(k:∀b o,wS->fL)(d:∀b∈ch,Tv)(a:s.heap.objs.size<=T)(new:ObjOk X.prog X.w (upd H T mF) h' T mF) :
  Inv X pins σ (upd H T mF) { s with heap:=h',toks:=t' }:=by
 have c:=I.hok.fresh a;refine I.turnedL k d (λb u e=>CS e c) (λb o e n=>by rw[QZ (λz=>by rw[z]at e;exact absurd gV (NZ.mpr a))];exact n) (eE b u n e)
 show zp3 z T e
 ·rw[QZ z,n]at e;cases e
#print "-"
noncomputable def Itv(K:Ng)(a:Addr)(n:Nat):It:=⟨λi H=>i<n/\∃b,vB/\Bz,λi H x c=>c=H/\∀b,vB->b[n-1-i]?=sO x,λi _=>n<=i⟩
theorem Qh0{K:Ng}(a it:Addr)(n:Nat):Turn P w K tg (Itv K a n) [it] it (λi h=>i<=n/\h.IsRevIter it a (gU-1-fQ)) where
 mem:=aP
 obj:=λi h st b j=>by
  have e:b=it:=cN j
  subst e;obtain⟨_,o,e,c,d⟩:=st;exact⟨o,e,λv z=>by show bK d z⟩
 keep:=λi h m st k=>⟨st.1,st.2.at λo e=>k it aB o e⟩
 item:=by
  intro X r hw t L i f s D H E I l st q;subst r hw t;obtain⟨U,F,J,hl⟩:=q;obtain⟨Q,rv,p,hz⟩:=f0 J;obtain⟨x,G⟩:∃x,F[n-1-i]?=sO x:=⟨F[n-1-i]' bR,Nj _⟩
  obtain⟨u,S,O⟩:=rv.get G;obtain⟨C,f1,f2,B,A,y⟩:=l it aB;have e:gU-1-fQ=((n-1-i:Nat):Int):=cC
  have hit:=st.2;rw[e]at hit;refine wpAny_pyNext_rev_item hit p.isList (x:=u) (bZ S) (aM m g N);have Z:((n-1-i:Nat):Int)-1=gU-1-((i+1:Nat):Int):=aQ
  rw[Z]at g;have I1:Az f D m:=I.turned (t':=s.toks) (RZ j N) C f1 B A y;show TM g;exact⟨u,rfl,Qdc (s:={ s with heap:=m }) e c d aE ⟨x,H,I1,O,⟨rfl,λys R=>by rw[I.list_inj R J];exact G⟩,fF U g,vD j l⟩⟩
 done:=by
  intro X r hw t L i f s D H E I l st q;subst r hw t;obtain⟨C,f1,f2,B,A,y⟩:=l it aB;have T:n<=i:=q;have e:gU-1-fQ=-1:=by have:=st.1;lia
  have hit:=st.2;rw[e]at hit;exact wpAny_pyNext_rev_end (mN L) hit λm Y=>⟨rfl,I.turned (t':=s.toks) (yK j Y) C f1 B A y⟩
 self:=λ_ _ _ _ _ st h=>La st.2 h
noncomputable def Qtp(K:Ng)(f:TA):TI:=λd H R=>f d H λe c=>∃a b,e=[aF a]/\SqL K c a b/\R (Itv K a b.length) c
theorem QnR{n a:Expr}(C:zF1)(A:zA0)(E:PA X [a] r)(y:pK a=[fM a]:=by rfl):PI X n zW7 (Qtp X.K r):=by
 show dU c j R;refine Call_ (VS I C A boot_reversed (Eb (thn (sL E c j) (aM J f m)) y rfl));show c7 G F I1 v w m;obtain⟨ad,g,e,z,q⟩:=w;subst e;show lZ t v;cases t;show zi1 d x M z;have B:=rv.length;refine call_reversed_list x.isList ?_;refine La (l:=ad) (i:=zw2-1) ⟨_,dF,rfl,rfl⟩ ?_;refine⟨f.heap.objs.size,Tn f,_,_,F,rfl,I1.kept (t':=f.toks) rY,Qh0 ad _ g.length,⟨NS _,?_⟩,bG b D,q⟩
 ·refine⟨_,dF,rfl,?_⟩;have:((d.toArray.size:Nat):Int)-1=(g.length:Int)-1-pV:=by rw[Nr,B];simp
  rw[<-this];rfl
 ·have e:b=f.heap.objs.size:=cN D
  subst e;exact I1.fpOk c8 (I1.hok.fresh c8)
#print "-L2"
namespace Mi
open L2
noncomputable def QhG(ms:MA):MI:=λb h=>(ms b h).bind λp=>match p.1 with
 |[jG a]=>sO (a.reverse,nO,p.2)
 |[aF n]=>match p.2[n]? with|some nF=>sO (a.reverse,sO (.r n),p.2)|_=>nO
 |_=>nO
section
variable{K:Ng}{R:Rn}
theorem QhR(l:Tx)(r:iF):ItOk K R (Itv K a xs.length) ws.reverse nO where
 go:=λi w j h H x d _ e=>by
  have c:=bX e;rw[Ds,r.length]at c;exact⟨c,xs,Jb (kX d x) l,rfl⟩
 yld:=λi w j h H x s e d _ g m=>by
  show tF n m;have c:=bX g;rw[Ds]at c;rw[IS c]at g;show iJ v q p r g;have:=n xs (Jb (kX d e) l);rw[<-r.length,q]at this;cases this;exact⟨j,qK,d,sU e p⟩
 stop:=λi j h H x d _ c=>by rw[Ds,r.length]at c;exact c
theorem QeU{ws:aI}(o:n<R.N):ItOk K R (Itv K iA ws.length) ws.reverse (sO (.r n)) where
 go:=λi w m h H x b a e=>by
  have f:=bX e;have j:=a (.r n) rfl;obtain⟨g,d,c⟩:=nN b j;rw[Lb]at c;rw[x.ρ n o]at d;exact⟨cN f,g,p6 d,c.length.symm⟩
 yld:=λi w m h H x s e b a l p=>by
  show tF q p;have j:=a (.r n) rfl;obtain⟨g,d,c⟩:=nN b j;rw[Lb]at c;rw[e.ρ n o]at d;have f:=bX l;rw[Ds]at f;rw[IS f]at l;show iJ v g1 g2 c l;have:=q g (SqL.of d);show lX g1;exact⟨m,qK,b,g2⟩
 stop:=λi m h H x b _ a=>by rw[Ds]at a;exact a
#print "-"
section
variable{X:Cx}{tg a b:Expr}{ms:MA}{p pos tpos:Pos}{elts:fY}{kk:Nat}
theorem Qj7(D:zF1)(B:zA0)(E:Z')(z:pK a=[fM a]:=by rfl):PMI X tg zW7 (QhG ms):=
 UN (QnR D B E z) λL H C s=>by
  obtain⟨R,i,h,items,w,N,y,st,e,k⟩:=s;show dD t I J d e;refine⟨R,i,h,t,I,y,st,J,qO r M o c⟩;split at d
  ·show zm0 u l;have f:=l;show dW f;obtain⟨ad,j,rfl,q,x⟩:=f;exact⟨ad,j,rfl,SqL.of (c.sub _ _ q),k R1 r _ o c (QhR (SqL.of q) x)⟩
  ·rename_i n g;show yP g;split at d
   ·show lE u A d;obtain⟨v,rfl,l⟩:=Wf rv;obtain⟨m,rfl,j,G,F⟩:=c.refAt l A;refine⟨_,j,rfl,p6 G,?_⟩;show u3 F;exact k R1 r _ o c (QeU m)
   ·cases d
  ·cases d
#print "-"
noncomputable def Qim(mk mv:ME):ME:=λa h=>(mk a (h++[oV])).bind λp=>(mv a p.2).bind λq=>(KJ (qD h) p.1 q.1 q.2).map λb=>(eX,b)
section
variable{prog:Program}{w:World}{A:Around}{E:bJ}{s:Shared}
theorem Qh9(h:wpAny aT A g (λd e=>wpAny aT A f (λa c=>wpAny aT A (dictSet s.heap.objs.size d a) (λ_ b=>Q s.heap.objs.size b) E c) E e) E { s with heap:=Ah }) :
  wpAny aT A (subDict [(g,f)]) Q E s:=by
 unfold subDict;refine Na (wpAny_alloc (Na P9));rw[if_pos aB];refine Na (evalPairs_cons (N8 h (λd e l=>N8 l (λa c j=>evalPairs_nil ?_) (fR x)) (fR x)));refine N0 ?_;rw[Ya9];refine Na (Na (show wpAny aT A (dictSet s.heap.objs.size d a>>=λ_=>pure (ForInStep.yield PUnit.unit)) _ _ c from Na (N8 j (λ_ b i=>Nh ?_) (fR x))));show wpAny aT A (forIn [] PUnit.unit _) _ _ b;rw[List.forIn_nil];exact Nh (Nh (Nh i))
#print "-"
section
variable{X:Cx}{k v:Expr}{mk mv:ME}{pos:Pos}
theorem Qhu(hu:gH)(hk:PM X k mk)(hv:PM X v mv):PM X (.Dict [sO k] [v] pos) (Qim mk mv):=by
 show wY f σ F;show U' p h' e F;show dD P Z e1 e2 e;show dD J h2 e3 e4 e2;show eD h3 e5 e6 e4;have hn:=Cy;have I1:=I.laid (a:=s.heap.objs.size) (o:=.dT []) (h':=Ah) (t':=s.toks) Sy c8 (QcK s.heap I.big);obtain⟨R1,G,O,L⟩:=rh.new (mo:=oV) (o:=.dT []) hn λR' x'=>zA8
 rw[arm_eval_Dict,zip_pairTrees [sO k] [v] X.env pos rfl rfl,dictDisplay_pairs _ (by simp[pairTrees]) (by simp[pairTrees])];refine Na (IK (Na (Qh9 ?_)));refine thn (hk f _ σ _ (CC T E R2 R1 Z P) I1 ⟨R1,p,h++[oV],P,Z,O,r6 G,e1,λR2 E T r i rk=>⟨R2,r,i,rk⟩⟩) λku s2 z1=>?_;obtain⟨T,E,I2,N,R2,r,i,rk⟩:=z1;refine Na (thn (hv f s2 σ E (CC m H3 g R2 h2 J) I2 ⟨R2,p,Z,J,h2,i,st.mono (dX G r),e3,λg H3 m l d rv=>⟨g,l,d,rv⟩⟩) λvu s3 F=>?_);obtain⟨m,H3,I3,M,g,l,d,rv⟩:=F;refine Na (IK fP);obtain⟨n,S,x,en,U,y,hl,rfl⟩:=Qcp e5;cases en;obtain⟨D,xs,hx,dr,z,lo,rr,dd⟩:=Qf9 I3 d U;obtain⟨c,rfl,rfl,B⟩:=U7 I3 d (Rw.mono l _ _ rk) N y;have r3:=Rw.mono (dX r l) _ _ L;have u:=r3;show dW u;obtain⟨Y,er⟩:=u;have C:g.ρ h.length=s.heap.objs.size:=by injection er with q;exact q.symm
 rw[C]at hx lo dd;have ab:=Ef dr;have j:=Ef rr;refine W7 (show X.A.units+8<cLine by exact NT (El aE _) hu) B dd (Nn (cL j) z) λh4 aa hs=>Nh ?_;have hz:(QcF D x c m).length<=sizeLine:=by have:=GR (kx:=D) (k:=x) (b:=c) (v:=m);lia
 have I4:=Qa7 (t':=s3.toks+(QA X.prog X.w).draws x) I3 hx hz lo (Qbx rr M) hs aa;have t:=d.put (n:=h.length) (o:=.dT (QcF D x c m)) (mo:=.dct (Qcg S x P J)) Y ⟨_,rfl,Qb2 dr (Rw.mono l _ _ rk) y rv⟩;rw[C]at t;exact⟨eZ s,_,I4,rfl,kk g _ _ (iG G r l) t r3⟩
#print "-"
#print "-Mi"
namespace St
theorem le_of_lt{a b:Str}:ltCps b.cps.toList a.cps.toList=false↔a.cps.toList<=b.cps.toList:=by
 rw[ltCps_eq,decide_eq_false_iff_not];exact Iff.rfl
theorem YA:∀(x:Str) (r:aO),risingS x r=true->∀z∈r,x.cps.toList<=z.cps.toList
 |x,[],_,z,hz=>by cases hz
 |x,y::r,h,z,hz=>by
  have h':zS0:=h;rw[N5,Bool.not_eq_true']at h';have a:=le_of_lt.mp h'.1
  rcases NM.mp hz with rfl|hz
  ·exact a
  ·exact List.le_trans a (YA y r h'.2 z hz)
theorem W6(h:sortedS lJ=true):sortedS r=true:=by
 cases r with
 |nil=>rfl
 |cons y r=>
  have a:zS0:=h;rw[N5]at a;exact a.2
theorem str_eq{a b:Str}(h:a.cps.toList=b.cps.toList):a=b:=by
 obtain⟨a⟩:=a;obtain⟨b⟩:=b;congr 1;exact Array.toList_inj.mp h
theorem UL:∀(a b:aO),a.Perm b->Hv->sortedS b=true->a=b
 |[],b,p,_,_=>(List.nil_perm.mp p).symm
 |x::r,[],p,_,_=>by cases List.perm_nil.mp p
 | x::r,y::t,p,d,c=>by
  have e:x=y:=by
   have g:y∈x::r:=p.mem_iff.mpr NF;have f:x∈y::t:=p.mem_iff.mp NF
   show Mw g z
   ·exact z.symm
   ·show Mw f q
    ·exact q
    ·exact str_eq (List.le_antisymm (YA x r d y z) (YA y t c x q))
  subst e;rw[UL r t (List.Perm.cons_inv p) (W6 d) (W6 c)]
open Classical in
noncomputable def srt(ks:aO):aO:=if h:∃a:aO,zZ a/\Hv then h.choose else[]
theorem srt_eq(p:zZ a)(h:Hv):srt ks=a:=by
 have b:∃a:aO,zZ a/\Hv:=⟨a,p,h⟩
 unfold srt;rw[dif_pos b];exact UL _ _ (b.choose_spec.1.trans p.symm) b.choose_spec.2 h
#print "-St"
namespace Mi
open L2
noncomputable def txW:aI->Option (List Str)
 |[]=>sO []
 |c4 x::r=>(txW r).map (x::·)
 |_=>nO
@[simp]theorem QjC(l:aO):txW (wB l)=sO l:=by
 induction l with
 |nil=>rfl
 |cons x l a=>rw[ND,txW,a];rfl
theorem Qoj{ws:aI}{a:aO}(e:txW ws=sO a):ws=a.map .str:=by
 induction ws generalizing a with
 |nil=>cases e;rfl
 | cons w r b=>
  cases w with
  |str x=>
   show s9 t c e;rw[b c];rfl
  |_=>cases e
theorem QmZ{K:Ng}:∀{a:aO} {xs:bA} {us:aX},Rws K R (wB a) xs->iI->StrsAre us a:=by
 intro a
 induction a with
 |nil=>
  show zl9
 | cons x a e=>
  show zR6;show dW b;subst b;cases v with
  |cons h t=>
   show aN c h;exact .cons x c (e d t)
theorem Qd5{K:Ng}{a:aO}{us:aX}(h:StrsAre us a):Vals (O' V) us/\Rws K R (O' W) (O' V):=by
 induction h with
 |nil=>exact⟨.nil,zB1⟩
 |cons x c h b=>
  refine⟨.cons (C6 c) b.1,?_⟩;rw[ND,ND];unfold Rws;exact⟨_,_,rfl,y0,b.2⟩
noncomputable def QsW(ws:aI)(h:MH):bF:=match ws with
 |[a]=>(lsW h a).bind λc=>(txW c).bind λb=>if b.length<64 then sO (.lst ((St.srt b).map .str),h)else nO
 |_=>nO
noncomputable def Ka(ws:aI)(h:MH):bF:=match ws with
 |[a]=>(lsW h a).bind λc=>(txW c).bind λb=>if zK8/\(St.uniq b).length<64 then sO (eX,zW8)else nO
 |_=>nO
section
variable{X:Cx}
theorem Inv.drew(I:cI a σ)(d:Drawn):Inv X a σ H { s with drawn:=d }:=⟨I.ok,I.os,I.bare,I.base,I.loc,I.cell,I.free,I.freeC,I.pin,I.hok,I.len⟩
theorem Qbl{p1 N l g:Pos}(T:fH)(hg:Gl X "sorted")(hm:X.mg "sorted"=nO)(F:Gl X "set")(B:X.mg "set"=nO)(he:zj2)(S:nB:=by rfl) :
  PM X (.Call (.Name "sorted" p1) [RK N g] [] l) (mFn Ka (Qc me Ql)):=by
 show wY m σ q;obtain⟨R,p,h,w,h',rh,st,e1,O⟩:=q;obtain⟨⟨as,h2⟩,e2,e3⟩:=dH e1;show dD a U e4 e5 e2;obtain⟨⟨bs,h3⟩,e6,e7⟩:=dH e5;show kR e6 e7;refine EL (VS I hg hm Lh (Fw ?_ (Q2 rfl) zL) aE aE);rw[Q2 (e:=RK N g) rfl];refine Dg (EL (VS I F B boot_set (Eb ?_ (Q2 S) zL) aE aE));rw[Q2 S];refine Dg (thn (he m s σ H (CC v H2 R2 R U a) I ⟨R,p,h,a,U,rh,st,e4,Se H2 f A⟩) (aM u L q));obtain⟨v,H1,I1,ru,R2,x2,f,A⟩:=q;refine E9 ?_;obtain⟨ys,e8,e9⟩:=dH e3;obtain⟨ss,G,j⟩:=dH e9;split at j
 ·show g6 P j;obtain⟨ad,xs,rfl,q1,M⟩:=f.lsAt A e8;cases ru;rw[Qoj G]at M;obtain⟨aa,rv,pl,hl⟩:=I1.list q1;have hS:=QmZ M rv;have C:=Lp hS;refine St.set_list (I1.ok.hd T) pl.isList (by rw[F4];exact hS) (by rw[Nr,C];show ss.length+1<4096;lia) λg1 t i k1=>E9 ?_;refine St.sortedS' (s:={ L with heap:=g1,toks:=t }) (I1.ok.hd T) i P.2 λD g2 d r vs J c Z Y b3 k2 E hD=>?_;obtain⟨v1,v2⟩:=Qd5 (K:=X.K) (R:=R2) Z;have n:L.heap.objs.size<=D:=Nn (Nw i.lt) E;have hp:=I1.hok.fresh n;have eq:=St.srt_eq Y b3;obtain⟨R3,x3,z,y⟩:=f.new (mo:=pO J) (o:=.lst (J.map V.str)) hp λR' x'=>⟨_,rfl,(Qd5 (K:=X.K) (R:=R') Z).2⟩
  rw[eq]at O;refine⟨aF D,_,Inv.drew (I1.laid (t':=r) (λb o e=>k2 b o (k1 b o gV e)) n (show zq4 from⟨?_,vs,c,v1,hD⟩)) d,rfl,O R3 _ _ (dX x2 x3) z y⟩;rw[Ny,Y.length_eq,DL];exact Nw (NT P.2 aE)
 ·cases j
#print "-"
#print "-Mi"
namespace St
open AutoSeq1 (wpAny_loadPart')
theorem Qhs(l:Addr)(items:eN)(n:Nat)(dct:qB)(i:CT) :
  Meets (Builtin.«enumerate.__new__» ⟨[zB2,aF l],[]⟩) (λ_ R s=>c9 s l=sO { cls:=i6,dict:=dct,data:=.seq items n,slots:=i } /\
   R (.ok (.ret (.ref (s.heap.push { cls:=RV,data:=.fields #[aF l,qY] }).objs.size)))
    { s with heap:=(s.heap.push { cls:=RV,data:=.fields #[aF l,qY] }).push { cls:=zB2,data:=.fields #[.none,.bool false,eZ s,rawInt 0,.none,.none] } }):=
 .of_wp λe w A R s h=>by
  obtain⟨j,g,d,tk,os⟩:=s;obtain⟨a,h⟩:=h;have f:=sub_enumerate;have b:Heap.IsTuple (Shared.heap ⟨j,g,d,tk,os⟩) l items:=⟨_,a,rfl,n,rfl⟩
  wp_walk using Fx a
  refine wpAny_stack_any λst=>Nh ?_;split
  ·rename_i c _ _ _ _ _;cases(c==Value.type "enumerate")
   ·show zo4
   ·show zo4
  ·show zo4
section
variable{prog:Program}{w:World}{A:Around}{E:bJ}{s:Shared}
theorem enumT(hL:Ax)
  (h:∀h',IsEnum h' CP s.heap.objs.size 0 .none->h'.IsTupleIter s.heap.objs.size l 0->(∀b o,fL)->Q (.ref CP) { s with heap:=h' }) :
  wpAny aT A (call (.type "enumerate") [aF l]) Q E s:=by
 obtain⟨⟨c,dct,i,f⟩,g,e,n,hd⟩:=hL;simp only at e hd;subst e hd;refine callType_new F.called_enumerate aE (F.typeCall_enumerate_1 _) (F.newCall_enumerate_1 _) (λobj=>Ov obj _) F.entry_enumerate_new (Qhs l items n dct f) ⟨g,?_⟩;have a:(s.heap.push { cls:=RV,data:=.fields #[aF l,qY] }).objs.size=xX:=DK ..;show _/\_;rw[a]
 have d:IsEnum ((s.heap.push { cls:=RV,data:=.fields #[aF l,qY] }).push { cls:=zB2,data:=.fields #[.none,.bool false,eZ s,rawInt 0,.none,.none] }) CP s.heap.objs.size 0 .none:=by
  rw[<-a];exact dF
 exact⟨gN d,h _ d ⟨_,Nl _ ze5,rfl,rfl⟩ λb o x=>Nl _ (Nl _ x)⟩
theorem Qda(hit:jo2)(e:Ax)(d:t9=sO x)
  (g:∀h',h'.IsTupleIter it l (i+1)->zw4 h'->Ti x h'):wpAny aT A (Builtin.SmallTypes.nextOf jU) Q E s:=by
 show TY a f;obtain⟨ol,b,_,nl,c⟩:=e;show zL8 a;refine(show wpAny _ _ (seqItems? (aD l)>>=_) _ _ s from Na (FH b c ?_));simp only[Ec,d];refine Na (Dl a hd aB (Nh ⟨x,rfl,Nh (g _ ⟨_,Eh _ a (O5 (Ij hd _)),(YaV ..).trans f,jo1⟩ nJ)⟩))
theorem Qej(f:f5)(hit:jo2)(h:Ax)(g:t9=nO)
  (j:∀h' e,js3->(∃o,oX e=sO o/\o.cls=.type "StopIteration")->E (aD e) { s with heap:=h' }):wpAny aT A (Builtin.SmallTypes.nextOf jU) Q E s:=by
 show TY c n;obtain⟨ol,b,_,nl,d⟩:=h;show zL8 c;refine(show wpAny _ _ (seqItems? (aD l)>>=_) _ _ s from Na (FH b d ?_));simp only[Ec,g];refine Na (De (Na (Dl c hd aB (Na ?_))));show zM1
 first|rw[show rV from f]|rw[f]
 exact Na (Nh (wpAny_throw (j _ _ jc4 ⟨_,dF,rfl⟩)))
theorem tit_at{h h':Heap}(x:h.IsTupleIter a t i)(e:∀o,lP a o):h'.IsTupleIter a t i:=by show fT o b r x;exact⟨o,e _ b,r⟩
theorem QnC{h h':Heap}(x:h.IsTuple a items)(e:∀o,lP a o):h'.IsTuple a items:=by show fT o b r x;exact⟨o,e _ b,r⟩
theorem drawsT(g:f5)(it l:Addr)(b:l≠it)(items:eN):Draws prog w A it [it,l] items.size (λi v=>t9=sO v) (λi h=>zC7 l/\h.IsTuple l items) where
 live:=λ_ _ x=>let⟨o,h,_⟩:=x.1;⟨o,h⟩
 frame:=λ_ _ _ st d=>⟨tit_at st.1 λo e=>d it aB o e,QnC st.2 λo e=>d l aB o e⟩
 item:=λi s Q E f st j=>Qda st.1 st.2 (x:=items[i]) (eC f) λn a c=>j _ n s.toks (eC f) ⟨a,st.2.extBut c.extBut b⟩ c
 done:=λs Q E st m=>Qej g st.1 st.2 aB m
#print "-"
#print "-St"
namespace L2
noncomputable def Ite(K:Ng)(a:Addr)(n:Nat):It:=
  ⟨λi H=>i<n/\∃b,vA/\Bz,
   λi H v c=>∃T x,v=aF T/\H T=nO/\c=upd H T (.tup [aC i,x])/\∀b,vA->By,
   λi H=>n<=i/\∃b,vA/\Bz⟩
theorem Qgs{K:Ng}(l e it:Addr)(n:Nat)(c:e≠it)(C:l≠e)(B:l≠it):Turn P w K (.Tuple L kk pos) (Ite K l n) [e,it] e (λi h=>i<=n/\jg5/\zC7 l) where
 mem:=aP
 obj:=λi h st b d=>by
  show jg6;have j:zj3:=cN d
  show v3 j
  ·exact⟨_,g,λv q=>tU q⟩
  ·exact⟨Y,M,λv q=>by show bK d1 q⟩
 keep:=λi h h' st k=>by
  obtain⟨m,⟨old,g⟩,h1⟩:=st;exact⟨m,⟨old,k e aB _ g⟩,St.tit_at h1 λo x=>k it aB o x⟩
 item:=by
  intro X J hw hK hc i z s σ H E I U st hg;show Rg;obtain⟨a,rv,p,hz⟩:=eR R;show jo3;have W:=IC (prog:=X.prog) (w:=X.w) (St.drawsT (A:=X.A.in1) uY it l B a.toArray) e c SB aB;refine W.item i s _ _ (by rw[Nr];exact Ni (Ni m (cL Z)) (Nt hl)) ⟨O,Q,p⟩ jg7;obtain⟨t,u,hu,rfl⟩:=J;refine⟨aF T,rfl,zY9⟩;obtain⟨x,hx⟩:∃x,N[i]?=sO x:=⟨N[i]'(Ni m (cL Z)),Nj _⟩
  show zO9
  subst M;have ae:=W.apart i T _ f
  have af:IsTup ai T #[zO,v]:=by
   show zZ5
  have ah:=I.hok.fresh hT;refine⟨aF T,_,I.turnedN (ch:=[e,it]) (t':=tk) (xs:=[aC i,x]) jb4 U hT ⟨by simp[DL],[zO,v],.cons qC (ML r),af⟩,rfl,⟨T,x,rfl,ah,rfl,λys hy=>by rw[I.tuple_inj hy R];exact hx⟩,⟨m,G.1,G.2.1⟩,bG b d⟩;rw[QZ (λq=>?_)]
  ·exact(U b d).1
  ·obtain⟨o,S,_⟩:∃o,c9 s b=sO o/\True:=by
    show jm2;have j:zj3:=cN d
    show v3 j
    ·exact⟨_,g,trivial⟩
    ·exact⟨Y,M,trivial⟩
   show jm1
 done:=by
  intro X J hw hK hc i z s σ H E I U st hg;show Rg;obtain⟨a,rv,p,hz⟩:=eR R;show jm3;have W:=IC (prog:=X.prog) (w:=X.w) (St.drawsT (A:=X.A.in1) uY it l B a.toArray) e c SB aB;have aa:a.toArray.size=i:=zK5
  refine W.done s _ _ (by rw[aa];exact⟨O,Q,p⟩) js4
  exact I.turnedL (ch:=[e,it]) jo4 U zJ0 (λ_ _ _ n=>n) λb u n e=>by show bK n e
 self:=zU7
noncomputable def Qp1(K:Ng)(f:TA):TI:=λd H R=>f d H λe c=>∃a b,e=[aF a]/\SqT K c a b/\R (Ite K a b.length) c
theorem QkG{X:Cx}{i:fY}(F:T3)(D:Sh)(G:PA X [a] v)(A:pK a=[fM a]:=by rfl) :
  PI X (.Tuple i O j) Pu (Qp1 X.K v):=by
 show dU d o R;refine Call_ (VS I F D boot_enumerate (Eb (thn (sL G d o) (aM M c r)) A rfl));show c7 L J I1 x y r;obtain⟨ad,t,e,B,q⟩:=y;subst e;show lZ w x;cases w;obtain⟨z,rv,l,P⟩:=I1.tuple B;have f:ad<c.heap.objs.size:=let⟨_,C,_⟩:=l;NC C
 refine St.enumT l λQ m hit E=>ID m ?_;refine⟨Hl c,[Hl c,c.heap.objs.size],_,_,J,rfl,zc5 I1 c E,Qgs ad _ _ t.length (Ya6 _) (NB (EV f)) (NB f),js5,bG b n,q⟩
 have g:c.heap.objs.size<=b:=by
  show zQ9
 exact jm4
#print "-L2"
namespace Mi
open L2
noncomputable def ZR(ws:aI):aI:=ws.zipIdx.map λq=>.tup [tJ,q.1]
noncomputable def UU(ms:MA):MI:=λa h=>(ms a h).bind λp=>match p.1 with
 |[.tup b]=>sO (ZR b,nO,p.2)
 |_=>nO
section
variable{K:Ng}{R:Rn}
theorem QfF(l:zH2)(r:iF):ItOk K R (Ite K a xs.length) (ZR ws) nO where
 go:=λi w p h H x d _ e=>by
  have c:=bX e;show cP g r;show Sa;exact⟨by exact Ni c (Nt g),xs,Jx (kX d x) l,rfl⟩
 yld:=λi w p h H x E e d _ m q=>by
  obtain⟨T,B,rfl,t,rfl,s⟩:=q;show zT3;show eD C y u A;show iJ v g1 g2 r y;have n:=s xs (Jx (kX d e) l);show bK g1 n;rw[NR];exact zO4
 stop:=λi p h H x d _ c=>by
  show cP g r;show Sa;exact⟨by exact Nn (cL g) c,xs,Jx (kX d x) l,rfl⟩
#print "-"
section
variable{X:Cx}{tg a:Expr}{ms:MA}{p pos tpos:Pos}{elts:fY}{kk:Nat}
theorem Qc8(u:T3)(t:Sh)(w:Z')(s:pK a=[fM a]:=by rfl):PMI X ju6 Pu (UU ms):=
 UN (QkG u t w s) λA H C j=>by
  obtain⟨R,c,h,items,o,E,r,st,e,k⟩:=j;show dD n x y d e;refine⟨R,c,h,n,x,r,st,y,qO z B m b⟩;split at d
  ·show zm0 D f;show dW f;obtain⟨ad,l,rfl,i,q⟩:=f;exact⟨ad,l,rfl,Jx b.sub i,k R1 z _ m b (QfF i q)⟩
  ·cases d
#print "-"
#print "-Mi"
namespace Dc
section
variable{prog:Program}{w:World}{A:Around}{E:bJ}{s:Shared}
theorem Qlv:typeLookup rZ zu7=pure nO:=by show HG
set_option maxHeartbeats 4000000 in
theorem keys_miss(i:c9 s a=sO { cls:=dE,dict:=nO,data:=.seq xs k,slots:=l })(n:f5)
  (h:∀h' tk,(∀b o,fL)->Q nO { s with heap:=h',toks:=tk }):wpAny aT A (getAttr? (aD a) zu7) Q E s:=by
 obtain⟨m,g,d,tk,os⟩:=s;have j:∀c,(⟨m,g,d,c,os⟩:Shared).TypeIs (aD a) "list":=λ_=>gN i
 have f1:=sub_AttributeError;have v:=Ik.lookup;have u:=Ik.bind (aD a);have t:=am_list_getattr_none;unfold getAttr? getAttrBy? getAttrBy
 repeat (any_goals (first|assumption|exact j _|((with_reducible show wpAny _ _ (call (Value.builtin "list.__getattribute__") _ _) _ _ _);refine IV Ik (j _) am_entry_list_getattribute (F.args_list_getattribute_2 _ _) (meets_getattribute_miss_list a xs k l zu7 _ Qlv cF) ⟨i,n,eE h' c e f⟩)|wp_step))
 obtain⟨q,p,r⟩:=f.there;show wpAny _ _ (getattributeRaised _ _ _ _ _ _ _) _ _ _;unfold getattributeRaised
 show xB
 exact h _ _ f.keeps
#print "-"
theorem e_upd:entryFor table "dict.update.loop"=sO Builtin.«dict.update.loop»:=entryFor_of_tree AZ
theorem p_upd:plainId "dict.update.loop"=true:=lU
section
variable{prog:Program}{w:World}{K:Type}[Bt K]{knd:KeyKind prog w K}{A:Around}{E:bJ}{s:Shared}
def PairAt(knd:KeyKind prog w K)(h:Heap)(v:Value)(p:K×Value):Prop:=∃a o n key,v=aF a/\cQ a=sO o/\o.cls=i6/\o.data=.seq #[key,p.2] n/\knd.is p.1 key=true
theorem PairAt.keep(x:PairAt knd h v p)(k:∀a o,v=aF a->cQ a=sO o->oX a=sO o):PairAt knd h' v p:=by
 obtain⟨a,o,n,key,rfl,e,d,c,b⟩:=x;exact⟨a,o,n,key,rfl,k a o rfl e,d,c,b⟩
noncomputable def mrg(kvs ps:m3 K):m3 K:=ps.foldl (λa p=>stored a p.1 p.2) kvs
theorem Qly(kvs:m3 K)(k:K)(v:Value):(stored kvs k v).length<=kvs.length+1:=by
 unfold stored;show S5
 ·rw[NK,NQ,F7];lia
theorem Qqk{ps:m3 K}(hh:rV)(H:l≠I)(h:D≠I)(N:D≠l)(q:S8):∀(k i:Nat) (s:Shared) (kvs:m3 K),items.size-i=k->i<=items.size->ju7->AB ->
  (∀(j:Nat) (v:Value) (p:K×Value),Ty->M1->PairAt knd s.heap v p/\v≠aF D/\v≠aF I)->s.heap.DictOf knd D kvs->kvs.length+k<=sizeLine ->
  (∀h' tk,h'.DictOf knd D (mrg kvs (ps.drop i))->(∀b o,b≠D->b≠I->fL)->R (.ok oA) { s with heap:=h',toks:=tk }) ->
  ∀t,codeAny aT A (.builtin "dict.update.loop" ⟨[aF D,aF I,zO,.none],[]⟩) R s:=by
 show zV2 H
 induction k with
 |zero=>
  intro i s kvs hk hi d c G S Z M t;have J:i=items.size:=aQ
  subst J;refine Es e_upd ?_;rw[Et p_upd _];refine(show wpAny _ A.in1 (pyNext (aD I)>>=_) _ _ s from Na (W.done s _ _ (fF d c) λh' tk f=>?_));refine(show zR4 from Na (Nh (Nh (M h' tk ?_ λb o _ hb e=>f b o (by simpa using hb) e))));rw[OU (Nt q)];exact S.at λo e=>f D o (bZ h) e
 | succ k ih=>
  intro i s kvs hk hi d c G S Z M t;have g:i<items.size:=aQ
  refine Es e_upd ?_;rw[Et p_upd _];refine(show wpAny _ A.in1 (pyNext (aD I)>>=_) _ _ s from Na (W.item i s _ _ g (fF d c) λv h' tk hv m f=>?_));have r:i<ps.length:=by exact Ni g (cL q)
  obtain⟨pa,nD,nI⟩:=G i v ps[i] hv (Nj r);obtain⟨a,o,n,key,rfl,h1,h2,U,h4⟩:=pa;have L:a≠I:=λz=>nI (by rw[z]);have ab:a≠D:=λz=>nD (by rw[z]);have y:=f a o (bZ L) h1;refine(show wpAny _ A.in1 (holding [fJ a] _>>=_) _ _ _ from Na P9);refine Na (wpAny_tryCatch (show wpAny _ _ (Builtin.Dict.pairItems (aD a)) _ _ _ from ?_));show zW0 y h2;rw[if_pos aE];refine Na (show wpAny _ _ (seqItems? (aD a)) _ _ _ from ?_);unfold seqItems?;refine Na (L0 y ?_);rw[U];refine Nh fP;refine(show wpAny _ A.in1 (holding [key,zj4] (dictSet D key zj4)) _ _ _ from N0 ?_);have Q:h'.DictOf knd D kvs:=S.at λo e=>f D o (bZ h) e;refine wpAny_dictSet_pairs (s:={ s with heap:=h',toks:=tk }) (hsz:=by exact Nn cJ Z) h4 Q (aM h2 P B);refine Nh ⟨Dk p_upd _,ih (i+1) _ (stored kvs zj5 zj4) aH g (m.1.at (S0 B I h)) (m.2.at (S0 B l N)) (λj v p e1 e2=>?_) P (by have:=Qly kvs zj5 zj4;lia) (λU C O F=>?_) _⟩
  ·obtain⟨q1,Y,X⟩:=G j v p e1 e2;refine⟨q1.keep λb o eb e=>?_,Y,X⟩;rw[B.2 b λz=>Y (by rw[eb,z])];exact f b o (by simpa using λz=>X (by rw[eb,z])) e
  ·refine M U C ?_ λb o x u e=>F b o x u ?_
   ·rw[EY r];exact O
   ·rw[B.2 b x];exact f b o (bZ u) e
theorem call_pairs{Q:bJ}(J:f5)(G:c9 s l=sO { cls:=dE,dict:=nO,data:=.seq items m,slots:=U })(D:S8)(hz:zw1)
  (M:∀(j:Nat) (v:Value) (p:K×Value),Ty->M1->PairAt knd s.heap v p)
  (h:∀h' tk,h'.DictOf knd s.heap.objs.size (mrg [] ps)->(∀b o,fL)->Q d8 { s with heap:=h',toks:=tk }) :
  wpAny aT A (call uQ [aF l]) Q E s:=by
 refine Lu (Q₁:=λobj d=>obj=eZ s/\d={ s with heap:=Ah }) F.kt_called_dict (Yaj _) F.entry_dict_init (kt_code_dict_new _ gD) λobj d r=>?_;show sB r;have c:(s.heap.push { cls:=sJ,data:=zH }).DictOf knd s.heap.objs.size []:=Ybb s.heap;show AJ g G;have f:=Nl { cls:=sJ,data:=zH } G;refine⟨c.typeIs,YaM _ _,?_⟩;show zW3;refine Na (Na (FO c.typeIs (show wpAny _ _ (pure (s.heap.objs.size,[fJ l])) _ _ _ from Nh ?_)));show wpAny _ _ (Builtin.Dict.updateFrom "dict.__init__" s.heap.objs.size (aD l) [] .none) _ _ _;unfold Builtin.Dict.updateFrom;refine Na (Dt (T:="list") (gN f) ?_);rw[if_pos aE];refine Na (keys_miss f (eC J) (aM i y u));show zP4 i y u f;have C:∀b o,c9 s b=sO o->(i.push { cls:=S2,data:=.fields #[aF l,qY] }).get? b=sO o:=λb o e=>Nl _ (u _ _ w6);have I:(i.push { cls:=S2,data:=.fields #[aF l,qY] }).DictOf knd s.heap.objs.size []:=c.keep λb o e=>Nl _ (u _ _ e)
 have t:s.heap.objs.size<i.objs.size:=by
  obtain⟨o,_,_,e,_⟩:=c;exact NC (u _ _ e)
 refine Nh ⟨Dk p_upd _,Qqk (knd:=knd) (l:=l) (items:=items) (ps:=ps) (eC J) (NB (NT g t)) (NB t) (EC g) D B3 0 _ [] rfl gX ⟨_,dF,rfl,rfl⟩ (zH7 C G) (λj v p R P=>?_) I (by simpa using hz) (λN x H B=>?_) _⟩
 ·have q:=M j v p R P
  have lt:∀b,v=aF b->pE:=λb O=>by
   obtain⟨a,o,n,key,e,S,_⟩:=q;show bK O e;exact NC S
  refine⟨q.keep λb o _ e=>C b o e,λz=>absurd (lt _ z) wO,k3 z⟩;have:=lt _ z;change i.objs.size<s.heap.objs.size at this;exact FU (Nw this) t
 ·refine⟨rfl,h N x (bZ H) λb o e=>B b o ?_ ?_ (rE C)⟩
  ·exact NB gV
  ·exact NB (NT gV t)
#print "-"
#print "-Dc"
namespace Mi
open L2
noncomputable def prW:aI->Option (List (Key×W))
 |[]=>sO []
 |.tup [k,v]::r=>(Wm k).bind λy=>(prW r).map ((y,v)::·)
 |_=>nO
noncomputable def QdV(kvs ps:dM W):dM W:=ps.foldl (λa p=>QaY a p.1 p.2) kvs
noncomputable def KM(ws:aI)(h:MH):bF:=match ws with
 |[a]=>(lsW h a).bind λb=>(prW b).bind λps=>if ps.length<=100000 then sO (eX,h++[.dic (QdV [] ps)])else nO
 |_=>nO
theorem Qny{K:Ng}:Rw K R (kW k) (kV k):=by
 cases k with
 |inl i=>unfold kW kV Rw;rfl
 |inr x=>unfold kW kV Rw;rfl
section
variable{X:Cx}
theorem QcR{K:Ng}:∀{kvs:dM W} {kx:dM V},yI->kvs.map (·.1)=kx.map (·.1)
 |_,_,.nil=>rfl
 |_,_,wJ h=>by rw[ND,ND,QcR t,h.1]
theorem QeO{K:Ng}{H:Hp}(f:eG)(ok:∀a xs,BG H->∃o n its,g.get? a=sO o/\o.cls=i6/\o.data=uG/\q9):∀{ys:aI} {ps:dM W} {xs:bA} {us:aX},prW ys=sO ps->Rws K R ys xs->iI ->
  ∃(kx:dM V) (b:SG),DicR K R ps kx/\KV kx b/\b.length=us.length/\∀(j:Nat) (u:Value) (p:Key×Value),us[j]?=sO u->b[j]?=sO p->Dc.PairAt (JG P w) g u p
 |[],ps,xs,us,e,r,v=>by
  cases e;show iD r;cases v;exact⟨[],[],.nil,.nil,rfl,λj u p c=>gL c⟩
 | .tup [k,x]::ys,ps,xs,us,e,r,v=>by
  show dJ y Q O e;obtain⟨qs,N,M⟩:=kS O;subst M;show i3 r z Z i F;cases v with
  |@cons _ u _ us c A=>
  obtain⟨kx,b,Y,U,T,S⟩:=QeO f ok N F A;show dW i;obtain⟨a,s,rfl,I,G⟩:=i;obtain⟨o,n,its,g1,g2,g3,L⟩:=ok a s (Jx f.sub I);show P8 z1 q E D G;obtain⟨t,d,rfl,C,B⟩:=QbR L;have J:=Xn E Q;subst J;obtain rfl:u=fJ a:=c;refine⟨(y,q)::kx,(y,d)::b,.cons (A5 D) Y,.cons (A5 B) U,hY T,λj u p m l=>?_⟩;cases j with
  |zero=>
   have f1:fJ a=u:=cN m
   have f2:(y,d)=p:=cN l
   subst f1;subst f2;exact⟨a,o,n,t,rfl,g1,g2,g3,QaM C⟩
  |succ j=>exact S j u p (bZ m) (bZ l)
theorem Qle{K:Ng}:∀{ps a:dM W} {kx c:dM V},DicR K R ps kx->DicR K R a c->DicR K R (QdV a ps) (kx.foldl RQ c):=by
 intro ps a kx c t d
 induction t generalizing a c with
 |nil=>exact d
 |@cons p q _ _ h t e=>
  show DicR K R (QdV (QaY _ p.1 p.2) _) (js6 q);have:=QbT (k:=p.1) d h.2;rw[h.1]at this;rw[h.1];exact e this
theorem Qod{kx a:dM V}{e c:SG}(p:KV kx e)(d:KV a c):KV (kx.foldl RQ a) (Dc.mrg c e):=by
 induction p generalizing a c with
 |nil=>exact d
 |@cons p q _ _ h t f=>
  show KV (js6 p) (Dc.mrg (stored _ q.1 q.2) _);have:=KV.put d p.1 h.2;rw[h.1]at this;rw[h.1];exact f this
theorem Qop:∀(ps a:dM V),(ps.foldl RQ a).length<=a.length+ps.length:=by
 intro ps
 induction ps with
 |nil=>
  intro a;simp
 |cons p ps c=>
  intro a;have e:=c (Qbd a p.1 p.2);have d:=K0 a p.1 p.2;rw[OC,NQ];lia
theorem K1(hc:fH):CallR X uQ (Fs X.K KM):=by
 intro A s σ H G us Q I r q;obtain⟨R,h,ws,w,h',t,f,e,k⟩:=q;unfold KM at e;split at e
 ·rename_i a;obtain⟨ys,e1,e2⟩:=dH e;obtain⟨ps,e3,y⟩:=dH e2;split at y
  ·rename_i hz;cases y;show q5 v S f;show lW G T O t S e1;show lZ N r;show zH8 N;obtain⟨c,rv,x,hl⟩:=f0 T
   obtain⟨D,M,F,E,d3,d4⟩:=QeO (P:=X.prog) (w:=X.w) (g:=s.heap) t (λb zs q=>by
    obtain⟨c,g1,⟨o,g2,g3,n,g4⟩,g5⟩:=eR q
    exact⟨o,n,c,g2,g3,g4,g1⟩) e3 O rv
   ·have l1:=Ef F;show cP l2 E;obtain⟨⟨oc,Y,Z,U⟩,m,x,C,B,d⟩:=x;dsimp only at C B d;subst C B d;refine Dc.call_pairs (knd:=JG X.prog X.w) (ps:=M) (items:=c.toArray) uY x (bZ d3) (by rw[Nr,DL];lia) (λj u p h1 h2=>d4 j u p (bZ h1) h2) λg tk dd kp=>?_;have hp:=Cy;obtain⟨R3,J,l,i⟩:=t.new (mo:=.dic (QdV [] ps)) (o:=.dK (D.foldl RQ [])) hp λR' L=>⟨_,rfl,Paired.mapP (Qle F .nil) (P' L)⟩
    refine⟨eZ s,_,I.laid (t':=tk) kp c8 (show ObjOk X.prog X.w _ _ _ (.dK _)from⟨?_,?_,_,Qod E .nil,dd⟩),rfl,k4 R3 J l i⟩
    ·have:=Qop D [];rw[DL];show iZ;lia
    ·exact zP5
  ·cases y
 ·cases e
#print "-"
theorem Qo0{K:Ng}(X:A4)(G:uP b)(a:AM=sO (sO (.str y t))):Glob K b x MS:=
 ⟨c4 y,_,BZ,qC,λ_=>Rw.str y⟩
theorem Qc1:∀(l:List (c×b)),(l.map (·.1)).zip (l.map (·.2))=l:=by
 intro l
 induction l with
 |nil=>
  exact rfl
 |cons p l a=>
  rw[ND,ND,List.zip_cons_cons,a]
theorem WG(f:Nat->bY):∀(o:MO),oI->thO f o=sO o
 |eV,p=>by show(ths f ws).map MO.lst=_;rw[Xe f ws p];rfl
 |.dic kvs,p=>by show(ths f (kvs.map (·.2))).map (λa=>MO.dic ((kvs.map (·.1)).zip a))=_;rw[Xe f _ p,N7,Qc1]
 |.dct kvs,p=>by show(ths f (kvs.map (·.2))).map (λa=>MO.dct ((kvs.map (·.1)).zip a))=_;rw[Xe f _ p,N7,Qc1]
 |.ins _ _,p=>jC p
theorem Qba:∀(ns:aZ) (os:kL) (h:MH),D'->Q0 ns os h=h:=by
 intro ns
 induction ns with
 |nil=>
  intro os h _;unfold Q0;rfl
 | cons n ns d=>
  intro os h e;unfold Z8 at e;show dJ o a l e;show hV r j i l;subst i
  have g:h[n]?=sO o:=by
   unfold Ub at a;split at a
   ·show vZ q b a
    ·cases a;exact b
    ·cases a
   ·cases a
  have f:h.set n o=h:=by
   show P4 c b g;rw[<-b];exact O6 c
  rw[Q0,f];exact d r h j
theorem Qie:∀(ns:aZ) (os:kL) (h:MH),D'->ns.length=os.length/\∀o∈os,oI:=by
 intro ns
 induction ns with
 |nil=>
  intro os h e;cases e;exact⟨rfl,yO b⟩
 | cons n ns c=>
  intro os h e;unfold Z8 at e;show dJ o a l e;show hV r j i l;subst i;obtain⟨g,f⟩:=c r h j;refine⟨hY g,bG x b⟩
  show kD b
  ·unfold Ub at a;split at a
   ·split at a
    ·show g6 d a;exact d
    ·cases a
   ·cases a
  ·exact f x b
theorem QcQ{os:kL}(r:BP=BC)(hd:ns.Nodup)(c:D')(e:m as os=sO (w,os++g))(hw:mE):AV=d7 w h:=by
 obtain⟨t,s⟩:=Qie ns os h c;show zn0 r c;rw[zk6 u,zg1,Nk]
 have key:∀(f:Nat->bY) (k:Nat) (a:kL),(∀i o,a[i]?=sO o->(os++g)[k+i]?=sO o)->(∀o∈a,oI)->Z8 (λj=>((os++g)[j]?).bind (thO f)) zr9=sO a:=by
  intro f k a
  induction a generalizing k with
  |nil=>intro _ _;rfl
  |cons x a p=>
   intro l d;show zp7 n l;rw[n,Nk,p (k+1) (λi o b=>by have:=l (i+1) o (bZ b);show zn4) (jT o q d),WG _ x (d x NF)];rfl
 rw[t,IX,key _ 0 os (λi o b=>by rw[NR,NJ (bX b)];exact b) s,Nk];have:frN w=[]:=rfl;rw[this];simp[Z8,Qba ns os h c]
@[simp]theorem Qr9:QeM σ h=sO (eX,h++BO):=aV
theorem QkV{os os':kL}(q:BP=BC)(hd:ns.Nodup)(s:D')(e:m as os=sO (w,os'++g))(t:os'.length=ns.length)(r:∀o∈os',oI)(hw:mE):AV=sO (w,Q0 ns os' h):=by
 show zn0 q s;rw[zk6 u,zg1,Nk]
 have key:∀(f:Nat->bY) (k:Nat) (a:kL),zW2->(∀o∈a,oI)->Z8 (λj=>((os'++g)[j]?).bind (thO f)) zr9=sO a:=by
  intro f k a
  induction a generalizing k with
  |nil=>intro _ _;rfl
  |cons x a n=>
   intro d c;show zp7 l d;rw[l,Nk,n (k+1) (λi o b=>by have:=d (i+1) o (bZ b);show zn4) (jT o p c),WG _ x (c x NF)];rfl
 rw[<-t,IX,key _ 0 os' (λi o b=>by rw[NR,NJ (bX b)];exact b) r,Nk];have:frN w=[]:=rfl;rw[this];simp[Z8]
noncomputable def G8(a:W)(ws:aI)(h:MH):bF:=match ws with
 |[b,v]=>(Wb h a).bind λc=>(Wm b).map λk=>((Wc c k).getD v,h)
 |_=>nO
section
variable{X:Cx}
theorem QhJ(G:gH):Qik X "dict.get" G8:=by
 intro g s U H x Y v us Q I u rv q;obtain⟨R,h,a,Z,w,h',f,D,d,e,k⟩:=q;show uZ G8 e
 ·rename_i b dv;show dJ E S P e;show eD i O N P;show uT J S;show P8 y z C B d;obtain⟨uy,uz,rfl,t,r⟩:=QbR rv;obtain⟨_,L,kx,F,T⟩:=f.dicAt D J;have M:=Xn C O;subst M L;show lQ v u;refine Qni (NT (El aE _) G) I (DGet.k (k:=i) F) t r (eE p s' j c)
  rcases Ac i T with z|⟨p,v',o,m,l⟩
  ·rw[z.2]at c;rw[z.1]at k;exact⟨_,H,j,c,k R H _ bV f B⟩
  ·rw[m]at c;rw[o]at k;exact⟨_,H,j,c,k R H _ bV f l⟩
 ·cases e
#print "-"
#print "-Mi"
namespace L2
noncomputable def ItE(K:Ng)(a:Addr)(n:Nat):It:=
  ⟨λi H=>i<n/\∃b,vB/\Bz,
   λi H v c=>∃T x,v=aF T/\H T=nO/\c=upd H T (.tup [aC i,x])/\∀b,vB->By,
   λi H=>n<=i/\∃b,vB/\Bz⟩
theorem Qdz{K:Ng}(l e it:Addr)(n:Nat)(c:e≠it)(C:l≠e)(B:l≠it):Turn P w K (.Tuple L kk pos) (ItE K l n) [e,it] e (λi h=>i<=n/\jg5/\h.IsListIter it l i) where
 mem:=aP
 obj:=λi h st b d=>by
  show jg6;have j:zj3:=cN d
  show v3 j
  ·exact⟨_,g,λv q=>tU q⟩
  ·exact⟨Y,M,λv q=>by show bK d1 q⟩
 keep:=λi h h' st k=>by
  obtain⟨m,⟨old,g⟩,h1⟩:=st;exact⟨m,⟨old,k e aB _ g⟩,h1.at λo x=>k it aB o x⟩
 item:=by
  intro X J hw hK hc i z s σ H E I U st hg;show Rg;obtain⟨a,rv,p,hz⟩:=f0 R;show jo3;have W:=IC (prog:=X.prog) (w:=X.w) (Draws.list (A:=X.A.in1) uY it l B a.toArray) e c SB aB;refine W.item i s _ _ (by rw[Nr];exact Ni (Ni m (cL Z)) (Nt hl)) ⟨O,Q,p.isList⟩ jg7;obtain⟨t,u,hu,rfl⟩:=J;refine⟨aF T,rfl,zY9⟩;obtain⟨x,hx⟩:∃x,N[i]?=sO x:=⟨N[i]'(Ni m (cL Z)),Nj _⟩
  show zO9
  subst M;have ae:=W.apart i T _ f
  have af:IsTup ai T #[zO,v]:=by
   show zZ5
  have ah:=I.hok.fresh hT;refine⟨aF T,_,I.turnedN (ch:=[e,it]) (t':=tk) (xs:=[aC i,x]) jb4 U hT ⟨by simp[DL],[zO,v],.cons qC (ML r),af⟩,rfl,⟨T,x,rfl,ah,rfl,λys hy=>by rw[I.list_inj hy R];exact hx⟩,⟨m,G.1,G.2.1⟩,bG b d⟩;rw[QZ (λq=>?_)]
  ·exact(U b d).1
  ·obtain⟨o,S,_⟩:∃o,c9 s b=sO o/\True:=by
    show jm2;have j:zj3:=cN d
    show v3 j
    ·exact⟨_,g,trivial⟩
    ·exact⟨Y,M,trivial⟩
   show jm1
 done:=by
  intro X J hw hK hc i z s σ H E I U st hg;show Rg;obtain⟨a,rv,p,hz⟩:=f0 R;show jm3;have W:=IC (prog:=X.prog) (w:=X.w) (Draws.list (A:=X.A.in1) uY it l B a.toArray) e c SB aB;have aa:a.toArray.size=i:=zK5
  refine W.done s _ _ (by rw[aa];exact⟨O,Q,p.isList⟩) js4
  exact I.turnedL (ch:=[e,it]) jo4 U zJ0 (λ_ _ _ n=>n) λb u n e=>by show bK n e
 self:=zU7
noncomputable def QmK(K:Ng)(f:TA):TI:=λd H R=>f d H λe c=>∃a b,e=[aF a]/\SqL K c a b/\R (ItE K a b.length) c
theorem QgO{X:Cx}{i:fY}(F:T3)(D:Sh)(G:PA X [a] v)(A:pK a=[fM a]:=by rfl) :
  PI X (.Tuple i O j) Pu (QmK X.K v):=by
 show dU d o R;refine Call_ (VS I F D boot_enumerate (Eb (thn (sL G d o) (aM M c r)) A rfl));show c7 L J I1 x y r;obtain⟨ad,t,e,B,q⟩:=y;subst e;show lZ w x;cases w;show zi1 z l P B;have f:ad<c.heap.objs.size:=let⟨_,C,_⟩:=l.isList;NC C
 refine call_enumerate_list l.isList λQ m hit _ E=>ID m ?_;refine⟨Hl c,[Hl c,c.heap.objs.size],_,_,J,rfl,zc5 I1 c E,Qdz ad _ _ t.length (Ya6 _) (NB (EV f)) (NB f),js5,bG b n,q⟩
 have g:c.heap.objs.size<=b:=by
  show zQ9
 exact jm4
#print "-L2"
namespace Mi
open L2
noncomputable def JF(ms:MA):MI:=λa h=>(ms a h).bind λp=>match p.1 with
 |[jG b]=>sO (ZR b,nO,p.2)
 |_=>nO
section
variable{K:Ng}{R:Rn}
theorem QdA(l:Tx)(r:iF):ItOk K R (ItE K a xs.length) (ZR ws) nO where
 go:=λi w p h H x d _ e=>by
  have c:=bX e;show cP g r;show Sa;exact⟨by exact Ni c (Nt g),xs,Jb (kX d x) l,rfl⟩
 yld:=λi w p h H x E e d _ m q=>by
  obtain⟨T,B,rfl,t,rfl,s⟩:=q;show zT3;show eD C y u A;show iJ v g1 g2 r y;have n:=s xs (Jb (kX d e) l);show bK g1 n;rw[NR];exact zO4
 stop:=λi p h H x d _ c=>by
  show cP g r;show Sa;exact⟨by exact Nn (cL g) c,xs,Jb (kX d x) l,rfl⟩
#print "-"
section
variable{X:Cx}{tg a:Expr}{ms:MA}{p pos tpos:Pos}{elts:fY}{kk:Nat}
theorem Yg(u:T3)(t:Sh)(w:Z')(s:pK a=[fM a]:=by rfl):PMI X ju6 Pu (JF ms):=
 UN (QgO u t w s) λA H C j=>by
  obtain⟨R,c,h,items,o,E,r,st,e,k⟩:=j;show dD n x y d e;refine⟨R,c,h,n,x,r,st,y,qO z B m b⟩;split at d
  ·show zm0 D f;show dW f;obtain⟨ad,l,rfl,i,q⟩:=f;exact⟨ad,l,rfl,Jb b.sub (.inl (iQ i)),k R1 z _ m b (QdA (.inl (iQ i)) q)⟩
  ·cases d
#print "-"
#print "-Mi"
namespace L2
open PySem.SeqAt
section
variable{prog:Program}{w:World}{A:Around}{E:bJ}{s:Shared}
theorem QeH(h:Q 0xFCA86420 { s with toks:=nG }):wpAny aT A (pyHash .none) Q E s:=by
 unfold pyHash;have a:[Value.none].any Value.onHeap=false:=rfl;show tX;rw[cRoomFor,if_neg (by rw[a];exact Ea)];refine Nh (Na jm5);show wpAny _ _ (if(sO (Value.builtin "NoneType.__hash__")==sO Value.none)=true then _ else _) Q E s;rw[jk7];refine Na jm5;show wpAny _ _ (callSpecialIfBoundUnlessNone? .none "__hash__" _>>=_) Q E s;refine Na (wpAny_callSpecialIfBoundUnlessNone?_slot (OV s) FV (Ej FV (OV s) F.entry_NoneType_hash (show wpAny _ _ (do ret (<-mkInt 0xFCA86420)) _ _ s from wpAny_ret_mkInt ?_) (F.args_NoneType_hash_1 _)));show wpAny _ _ (if(decide (-(2:Int)^63<=0xFCA86420)&&decide ((0xFCA86420:Int)<2^63))=true then _ else _) Q E _;rw[if_pos aE];exact Nh h
theorem QeD{stored:aX}(c:∀v∈stored,∃k b,v=aF b/\xP k b)(h:Q false s):wpAny aT A (tableMayTell .none stored) Q E s:=by
 unfold tableMayTell;split
 ·exact Nh h
 ·refine Na (m:=eqIsQuiet 8 .none) fP;show SK;refine Na (IM _ (λrest r a=>a=s/\r=(nO,())/\∀v∈rest,∃d b,v=aF b/\xP d b) _ ?_ ?_ _ _ ⟨rfl,rfl,c⟩)
  ·rintro x rest r a ⟨rfl,rfl,e⟩
   obtain⟨d,b,rfl,g⟩:=e x NF;refine Na ((QA prog w).quiet g ?_);show SK;exact Nh ⟨rfl,rfl,jT v f e⟩
  ·rintro r a ⟨rfl,rfl,_⟩
   exact Nh h
theorem Qe9 {es ep} {xs:uC} (F:uW) (n:c9 s d=sO o) (hd:Ss) (I:es.toList=xs.map RB) (m:∀x∈xs,(QA prog w).is s.heap x.1 x.2.1)
  (z:Q nO s):wpAny aT A (dictFind d .none g) Q E s:=by
 have a:∀e∈es,∃x∈xs,e=entryOfKey zb3 x:=λe t=>by
  have:e∈xs.map RB:=I▸Yaa.mpr t;obtain⟨x,l,rfl⟩:=NI.mp this;exact⟨x,l,rfl⟩
 have q:∀v∈(placesWithHash es.size (λi=>es[i]?.map (·.hash)) g).filterMap (λi=>es[i]?.map (·.key)),∃B b,v=aF b/\xP B b:=by
  intro v D;obtain⟨i,_,H⟩:=Lx.mp D;show s9 e u H;obtain⟨x,l,rfl⟩:=a e (IT u);exact⟨x.1,x.2.1,rfl,m x l⟩
 have eq:∀{b:Addr} {k:Tr} {R:Bool->eA},xP k b->R false s->wpAny aT A (eqBool (aD b) .none) R E s:=λ{b k R} J r=>by
  obtain⟨_,_,C,_,_,G,_⟩:=QbP (show IsT s.heap 8 k (aD b)from J);exact EqAt.tuple_none G F prog w E R r
 unfold dictFind;refine N0 (Na (FG n hd ?_));dsimp only
 by_cases h:((Value.none::(placesWithHash es.size (λi=>es[i]?.map (·.hash)) g).filterMap (λi=>es[i]?.map (·.key))).all carriedByValue)=true
 ·rw[bH h];unfold dictWalkPlain;refine Na (IM _ (λrest r j=>j=s/\r=(nO,())) _ ?_ ?_ _ _ gD)
  ·rintro x rest r j ⟨rfl,rfl⟩
   cases l:es[x]? with
   |none=>exact Nh gD
   |some e=>
    obtain⟨y,p,rfl⟩:=a e (IT l);show BL
    ·show zN0;rw[if_neg aB];simp only[Er,if_false];exact Na (De (Nh gD))
    ·exact Nh gD
  ·show jk8
 ·rw [bQ h]
  have go:∀stored:aX,wpAny aT A (do
    let mut hit:qJ:=nO
    for i in placesWithHash es.size (λi=>es[i]?.map (·.hash)) g do
     if let sO e:=es[i]? then
      if e.hash==g then
       let c <-jk9
       let same <-eqBool e.key .none
       if(<-jk9) != c then unsupported "dict.changed-during-lookup"
       if same then
        if hit.isSome then unsupported "dict.find:order-among-keys-of-one-hash"
        rule "dict.find.hit"
        if stored.length<2 then return sO i
        hit:=sO i
       else
        rule "dict.find.same-hash-other-key"
        if false&&!(0<=g&&g<32)then unsupported "dict.find:asked-again-or-not-hangs-on-the-table"
    return hit) Q E s:=by
   intro stored;refine Na (IM _ (λrest r j=>j=s/\r=(nO,nO)) _ ?_ ?_ _ _ gD)
   ·rintro x rest r j ⟨rfl,rfl⟩
    cases l:es[x]? with
    |none=>exact Nh gD
    | some e=>
     obtain⟨y,p,rfl⟩:=a e (IT l);show BL
     ·show zN0;rw[if_neg aB];simp only[Er,if_false];refine Na (De ?_)
      first|rw[if_neg aB]|skip
      first|exact Nh gD|exact Na (Nh (Nh gD))
     ·exact Nh gD
   ·show jk8
  by_cases f:(((placesWithHash es.size (λi=>es[i]?.map (·.hash)) g).filterMap (λi=>es[i]?.map (·.key)))==[Value.none])=true
  ·rw[bH f];refine Na fP;rw[if_neg aB];exact go _
  ·rw[bQ f];refine Na (QeD q ?_);rw[if_neg aB];exact go _
#print "-"
#print "-L2"
namespace Sl
open PySem.W
inductive Ev(n:Nat)(c:Nat->Nat->Bool){α:Type}:KasT α->α->Prop where
 |ret (a:α):Ev n c (.ret a) a
 |ask {i j:Nat} {k:Bool->KasT α} {a:α}:i<n->j<n->Ev n c (k (c i j)) a->Ev n c (.ask i j k) a
theorem Ev.bind(h:Ev n c t a)(h2:Ev n c (g a) b):Ev n c (t.bind g) b:=by
 induction h with
 |ret=>exact h2
 |ask f e _ d=>exact .ask f e (d h2)
theorem Ev.wp{n:Nat}{s:Shared}(l:∀(i j tk:Nat) (C:Bool->eA),i<n->j<n->(∀t,C (c i j) { s with toks:=t })->cmp i j C { s with toks:=tk }){t:KasT b}{a:b}(h:Ev n c t a){Q:b->eA}(d:∀t,Q a { s with toks:=t }):∀tk,t.kasWp cmp Q { s with toks:=tk }:=by
 induction h with
 |ret=>exact d
 |ask g f _ e=>exact λtk=>l _ _ tk _ g f λt=>e d t
section
variable{n:Nat}{g:zQ}
noncomputable abbrev cg(g:zQ)(i j:Nat):Bool:=decide (g i<g j)
noncomputable def K(g:zQ)(p:mH)(i:Nat):Int:=g (p.getD i 0)
structure Ok(n:Nat)(p:mH):Prop where
 sz:p.size=n
 pm:p.Perm (List.range n).toArray
theorem Ok.lt(h:rA)(a:0<n)(i:Nat):p.getD i 0<n:=by
 unfold Array.getD;split
 ·rename_i b;have:p[i]∈p:=Array.getElem_mem b;have:=(h.pm.mem_iff).mp this;show j8
 ·exact a
theorem WY{p:mH}{q:mH}(h:p[i]?=q[j]?):p.getD i 0=q.getD j 0:=by
 rw[DQ,DQ,h]
theorem Qfu{p:mH}{i j:Nat}(a:j<=p.size)(k:Nat):(kas_rev p i j).getD k 0=if i<=k/\k<j then p.getD (i+j-1-k) 0 else p.getD k 0:=by
 have e:=getElem?_mirror (xs:=p) (i:=i) (j:=j) a ((j-i)/2) aH k;unfold kas_rev
 by_cases h:i<=k/\k<j
 ·rw[bH h];refine WY ?_;rw[e];split
  ·rfl
  ·rename_i z;rw[show i+j-1-k=k by lia]
 ·rw[bQ h];refine WY ?_;rw[e,if_neg bR]
theorem Ok.rev(h:rA)(i j:Nat):Ok n (kas_rev p i j):=⟨(mirror_size _ _ _ _).trans h.sz,(mirror_perm _ _ _ _).trans h.pm⟩
def Inc(g:zQ)(p:mH)(k:Nat):Prop:=∀i j,i<=j->j<k->g9 i<=g9 j
def Dec(g:zQ)(p:mH)(k:Nat):Prop:=∀i j,i<=j->j<k->g9 j<=g9 i
theorem Inc.succ(h:Cn k)(b:1<=k)(e:oK k<=g9 k):Inc g p (k+1):=λi j a f=>by
 by_cases c:j<k
 ·exact h i j a c
 ·have:j=k:=aQ
  subst this
  show Rl d
  ·exact Fj (h i (j-1) aH bR) e
theorem Dec.succ(h:Dec g p k)(b:1<=k)(e:g9 k<=oK k):Dec g p (k+1):=λi j a f=>by
 by_cases c:j<k
 ·exact h i j a c
 ·have:j=k:=cC
  subst this
  show Rl d
  ·exact Fj e (h i (j-1) bR bR)
theorem QiL(a:rA)(b:0<n):∀(f k:Nat),1<=k->k+f<=n->Cn k->∃m,Ev n wQ (kas_asc p f k) m/\k<=m/\m<=k+f/\Cn m/\(m<k+f->g9 m<oK m):=by
 intro f
 induction f with
 |zero=>
  intro k _ _ d;exact⟨k,rB,Nv _,Nv _,d,λh=>absurd h wO⟩
 |succ f o=>
  intro k q s d
  by_cases c:g9 k<oK k
  ·refine⟨k,mU a b,Nv _,yJ,d,λ_=>c⟩;rw[show Am=true from m2 c,fO];exact rB
  ·obtain⟨m,e,l,r,j,i⟩:=o (k+1) lC aH (d.succ q (Lc.mp c));refine⟨m,mU a b,by exact Nw l,aQ,j,λz=>i aH⟩;rw[show Am=false from lY c,if_neg aB];exact e
theorem QfS(c:b<=p.size)(h:∀i,a<=i->i<b->g9 i=oK b)(k:Nat):K g (kas_rev p a b) k=g9 k:=by
 have e:=Qfu (p:=p) (i:=a) (j:=b) c k;unfold K at h ⊢;rw[e];split
 ·rename_i z;rw[h _ bR bR,h k z.1 z.2]
 ·rfl
theorem Qlc(h:0<n):∀(f:Nat) (p:mH) (k q:Nat),rA->q<k->k+f<=n->Dec g p k->(∀i,k-(q+1)<=i->i<k->g9 i=oK k) ->
  ∃l m r,Ev n wQ (kas_desc f p k q) (l,m,r)/\Ok n l/\r<m/\m<=k+f/\Dec g l m/\∀i,m-(r+1)<=i->i<m->K g l i=K g l (m-1):=by
 intro f
 induction f with
 |zero=>
  intro p k q d x F hd t;exact⟨p,k,q,rB,d,x,yJ,hd,t⟩
 | succ f A=>
  intro p k q d x F hd t;have B:=d.sz
  by_cases c:g9 k<oK k
  ·by_cases s:q>0
   ·have E:=QfS (g:=g) (p:=p) (a:=k-(q+1)) (b:=k) (Nn (Nn cJ F) (cL B)) t
    have D:Dec g jo5 (k+1):=λi j C J=>by
     rw[E,E];exact(hd.succ aH (FI c)) i j C J
    obtain⟨l,m,r,e,o,w,I,v,u⟩:=A jo5 (k+1) 0 (d.rev _ _) Ci aH D (λi H G=>by rw[Sj]);refine⟨l,m,r,mU d h,o,w,aQ,v,u⟩;rw[show Am=true from m2 c,fO,bH s];exact e
   ·obtain⟨l,m,r,e,o,w,I,v,u⟩:=A p (k+1) 0 d Ci bR (hd.succ aH (FI c)) (λi H G=>by rw[Sj]);refine⟨l,m,r,mU d h,o,w,cC,v,u⟩;rw[show Am=true from m2 c,fO,bQ s];exact e
  ·by_cases y:oK k<g9 k
   ·refine⟨p,k,q,mU d h,d,x,yJ,hd,t⟩;rw[show Am=false from lY c,if_neg aB];refine mU d h;rw[show cg g Hb HM=true from m2 y,fO];exact rB
   ·obtain⟨l,m,r,e,o,w,I,v,u⟩:=A p (k+1) (q+1) d (E6 x _) bR (hd.succ aH (Lc.mp y)) (λi H G=>by
     by_cases z:i=k
     ·rw[Sj]
     ·have:=t i aH aH;rw[this,show k+1-1=k by exact rfl]
      exact Ld (Lc.mp c) (Lc.mp y))
    refine⟨l,m,r,mU d h,o,w,cC,v,u⟩;rw[show Am=false from lY c,if_neg aB];refine mU d h;rw[show cg g Hb HM=false from lY y,if_neg aB];exact e
theorem Qc7(c:rA)(l:0<n)(h1:1<=k)(d:k<=n)(hd:Dec g p k):∃b m,Ev n wQ (kas_tail3 k n p) (m,b)/\Ok n b/\1<=m/\m<=n/\Inc g b m:=by
 have a:=c.sz
 have q:Inc g (kas_rev p 0 k) k:=λi j o s=>by
  unfold K;rw[Qfu (Nn d (cL a)),Qfu (Nn d (cL a)),if_pos aH,if_pos aH];exact hd _ _ bR bR
 obtain⟨m,e,h,r,f,_⟩:=QiL (c.rev 0 k) l (n-k) k h1 aH q;exact⟨kas_rev p 0 k,m,e.bind (.ret _),c.rev _ _,by exact Nn h1 h,aQ,f⟩
theorem Wu(w:rA)(h:0<n)(h1:1<=k)(z:k+1<=n)(hd:Dec g p (k+1)):∃c m,Ev n wQ (kas_descPart k n p) (m,c)/\Ok n c/\1<=m/\m<=n/\Inc g c m:=by
 obtain⟨u,d,f,e,o,C,B,t,y⟩:=Qlc (g:=g) h (n-(k+1)) p (k+1) 0 w Ci bR hd (λi h1 A=>by rw[Sj]);have v:=o.sz
 by_cases s:f>0
 ·have r:=QfS (g:=g) (p:=u) (a:=d-(f+1)) (b:=d) aH y;obtain⟨c,m,q,b⟩:=Qc7 (g:=g) (o.rev (d-(f+1)) d) h (k:=d) aH aH (λi j l x=>by rw[r,r];exact t i j l x);refine⟨c,m,vU,b⟩;show jf1;rw[bH s];exact q
 ·obtain⟨c,m,q,b⟩:=Qc7 (g:=g) o h (k:=d) aH bR t;refine⟨c,m,vU,b⟩;show jf1;rw[bQ s];exact q
theorem QiA(d:rA)(h:0<n):∃f m,Ev n wQ (kas_count n p) (m,f)/\Ok n f/\1<=m/\m<=n/\Inc g f m:=by
 have y:=d.sz;obtain⟨k,e,l,C,r,q⟩:=QiL (g:=g) d h (n-1) 1 c8 aH (λi j o w=>by rw[show i=j by lia];exact DM _)
 by_cases c:k=n
 ·refine⟨p,k,vU,d,l,by exact Nt c,r⟩;rw[if_pos (eC c)];exact rB
 ·have q:=q aH
  by_cases s:k>1
  ·by_cases u:K g p 0<oK k
   ·refine⟨p,k,vU,d,l,aQ,r⟩;rw[if_neg (eC c),bH s];refine mU d h;rw[show cg g (p.getD 0 0) Hb=true from m2 u,fO];exact rB
   ·have eq:∀i,0<=i->i<k->g9 i=oK k:=λi _ B=>by
     have a:=r 0 i gX B;have b:=r i (k-1) aH aH;exact Ld b (Fj (Lc.mp u) a)
    have v:=QfS (g:=g) (p:=p) (a:=0) (b:=k) aH eq
    obtain⟨f,m,t,b⟩:=Wu (g:=g) (d.rev 0 k) h (k:=k) l aH (λi j o w=>by
     rw[v,v]
     show oO
     ·subst z
      show Rl x
      ·rw[eq i gX aH];exact FI q
     ·rw[eq i gX aH,eq j gX aH];exact DM _)
    refine⟨f,m,vU,b⟩;rw[if_neg (eC c),bH s];refine mU d h;rw[show cg g (p.getD 0 0) Hb=false from lY u,if_neg aB];exact t
  ·have A:k=1:=by exact Dz (hP s) l
   subst A
   obtain⟨f,m,t,b⟩:=Wu (g:=g) d h (k:=1) l aH (λi j o w=>by
    show Rl z
    ·have:i=0/\j=1:=aQ
     rw[this.1,this.2];exact FI q)
   refine⟨f,m,vU,b⟩;rw[if_neg (eC c),bQ s];exact t
theorem Wn(h:rA)(j:0<n)(v:Cn k):∀(f l r:Nat),r-l<=f->l<=r->r<=k->(∀i,i<l->g9 i<=g9 k)->(∀i,r<=i->i<k->g9 k<g9 i) ->
  ∃m,Ev n wQ (kas_place p k f l r) m/\m<=k/\(∀i,i<m->g9 i<=g9 k)/\∀i,m<=i->i<k->g9 k<g9 i:=by
 intro f
 induction f with
 |zero=>
  intro l r w t d q o;exact⟨l,rB,by exact Nn t d,q,λi a b=>o i aH b⟩
 | succ f u=>
  intro l r w t d q o
  by_cases c:l >= r
  ·refine⟨l,?_,by exact Nn t d,q,λi a b=>o i (Nn c a) b⟩;unfold kas_place;rw[bH c];exact rB
  ·by_cases s:g9 k<K g p Mz
   ·obtain⟨m,e,b⟩:=u l Mz bR aH aH q (λi a b=>Int.lt_of_lt_of_le s (v _ _ a b));refine⟨m,?_,b⟩;unfold kas_place;rw[bQ c];refine mU h j;rw[show cg g HM (p.getD Mz 0)=true from m2 s,fO];exact e
   ·obtain⟨m,e,b⟩:=u ((l+r)/2+1) r bR aH d (λi a=>Fj (v i Mz aH aH) (Lc.mp s)) o;refine⟨m,?_,b⟩;unfold kas_place;rw[bQ c];refine mU h j;rw[show cg g HM (p.getD Mz 0)=false from lY s,if_neg aB];exact e
theorem Qmh(a:k<p.size)(c:l<=k)(j:Nat):K g (bubble p k (k-l)) j=if j=l then g9 k else if l<j/\j<=k then oK j else g9 j:=by
 have e:=getElem?_bubble (xs:=p) a (k-l) qX j;rw[show k-(k-l)=l by lia]at e;unfold K
 by_cases z:j=l
 ·rw[bH z]at e;rw[bH z,WY e]
 ·rw[bQ z]at e
  by_cases y:l<j/\j<=k
  ·rw[bH y]at e;rw[bQ z,bH y,WY e]
  ·rw[bQ y]at e;rw[bQ z,bQ y,WY e]
theorem Qng(A:0<n):∀(f:Nat) (p:mH) (k:Nat),rA->k+f=n->Cn k->∃d,Ev n wQ (kas_bin f p k) d/\Ok n d/\Inc g d n:=by
 intro f
 induction f with
 |zero=>
  intro p k h u c;exact⟨p,rB,h,by rw[<-u];exact c⟩
 | succ f z=>
  intro p k h u c;have q:=h.sz;obtain⟨l,e,y,x,w⟩:=Wn h A c k 0 k qX gX c8 (λi a=>pX a) (λi a b=>aQ);have v:=λj=>Qmh (g:=g) (p:=p) (k:=k) (l:=l) aH y j
  obtain⟨d,B,b⟩:=z (bubble p k (k-l)) (k+1) ⟨(bubble_size _ _ _).trans q,(bubble_perm _ _ _).trans h.pm⟩ aH (λi j r C=>by
   rw[v,v]
   by_cases o:i=l<;>by_cases m:j=l
   ·rw[bH o,bH m];exact DM _
   ·rw[bH o,bQ m,if_pos aH];exact FI (w _ aH aH)
   ·rw[bQ o,bH m,if_neg aH];exact x _ aH
   ·rw[bQ o,bQ m]
    by_cases t:l<i/\i<=k<;>by_cases s:l<j/\j<=k
    ·rw[bH t,bH s];exact c _ _ aH aH
    ·lia
    ·rw[bQ t,bH s];exact c _ _ aH aH
    ·rw[bQ t,bQ s];exact c _ _ r aH)
  exact⟨d,e.bind B,b⟩
theorem QjK(d:0<n):∃p,Ev n wQ (kas_sort n) p/\rA/\Cn n:=by
 obtain⟨p,m,e,o,j,h,a⟩:=QiA (g:=g) (p:=(List.range n).toArray) ⟨aP,wG⟩ d
 by_cases c:m<n
 ·obtain⟨f,i,b⟩:=Qng (g:=g) d (n-max m 1) p (max m 1) o aH (by rw[show max m 1=m by lia];exact a);refine⟨f,vU,b⟩;show jf2;rw[bH c];exact i
 ·refine⟨p,vU,o,by rw[show n=m by exact Dz (hP c) h];exact a⟩;show jf2;rw[bQ c];exact rB
#print "-"
theorem pw2:∀{l:cE a},l.length<2->l.Pairwise R
 |[],_=>.nil
 |[_],_=>List.pairwise_singleton _ _
set_option autoImplicit false
section
variable{prog:Program}{w:World}{A:Around}{E:bJ}{s:Shared}
theorem sort_any{a:Addr}{d:aX}{n:Nat}{κ:SortKind}{f:Value->Int}{P:PySem.Fin->eA}(I:c9 s a=sO (seqObj "list" d.toArray n))(F:d.length<64)
  (hk:2<=d.length->∀g:Heap,(∀b o,b≠a->c9 s b=sO o->fU g=sO o)->∀Q:SortKind->eA,Ti κ g->wpAny aT A (keyKind' d.toArray) Q m1 { s with heap:=g })
  (hc:∀g:Heap,(∀b o,b≠a->c9 s b=sO o->fU g=sO o)->∀x∈d,∀y∈d,∀(tk:Nat) (C:Bool->eA),(∀t,C (decide (f x<f y)) { s with heap:=g,toks:=t })->wpAny aT A (keyLt' κ x y) C m1 { s with heap:=g,toks:=tk })
  (h:∀(g:Heap) (tk c:Nat) (us:aX),us.Perm d->jf3->(∀b o,b≠a->c9 s b=sO o->fU g=sO o)->g.get? a=zp8->P (.done oA) { s with heap:=g,toks:=tk }) :
  wpAny aT A (Builtin.«list.sort» ⟨[aF a],[]⟩) P E s:=by
 have N:d.length<=sizeLine:=Nw (NT F aE);have la:a<s.heap.objs.size:=NC I;obtain⟨M,g1⟩:∃M,(s.heap.update a (Obj.mapSeq λ_=>(#[]:eN))).get? a=js7:=⟨_,get?_update_seq I λ_=>#[]⟩
 rw[list_sort_plain];refine Na (listItems_at I rfl (Na (listUpdate_at I rfl ?_ (by rw[Nr];exact N) gX)));refine Na (seqEpoch_at g1 rfl (Na (wpAny_newTuple ?_ (by show d.length<=_;exact N))));refine Na (FY P9 gX);show wpAny aT A _ P E { s with heap:=((s.heap.update a (Obj.mapSeq λ_=>(#[]:eN))).push Ri).push RX };have H:∀b o,b≠a->c9 s b=sO o->(((s.heap.update a (Obj.mapSeq λ_=>(#[]:eN))).push Ri).push RX).get? b=sO o:=λb o J e=>Nl _ (Nl _ ((EM _ _ (EI J)).trans e));have g2:(((s.heap.update a (Obj.mapSeq λ_=>(#[]:eN))).push Ri).push RX).get? a=js7:=Nl _ (Nl _ g1);generalize((s.heap.update a (Obj.mapSeq λ_=>(#[]:eN))).push Ri).push RX=g at H g2;dsimp only
 have fin:∀(st:SortSt) (tk:Nat) (us:aX),us.Perm d->jf3->(arrOf st).map (·.2)=us.toArray->failedOf st=nO->wpAny aT A (do
   let l:=(<-seqEpoch a) != M
   Builtin.List.listUpdate (aD a) λ_=>(arrOf st).map (·.2)
   if let sO e:=failedOf st then rule "list.sort.comparison-raised";throw e
   if l then rule "list.sort.modified";raiseError "ValueError" "list modified during sort"
   ret .none) P E { s with heap:=g,toks:=tk }:=by
  intro st tk us R u2 q1 q2;rw[q1,q2];refine Na (seqEpoch_at g2 rfl (Na (listUpdate_at g2 rfl ?_ gX (by rw[Nr,R.length_eq];exact Nn N cJ))));simp only[bne_self_eq_false,Er,if_false];refine Nh ?_;exact h _ tk _ us R u2 (λb o J e=>(EM _ _ (EI J)).trans (H b o J e)) (get?_update_seq g2 λ_=>us.toArray)
 by_cases v:d.toArray.size<2
 ·rw[bH v,bH v];refine Na fP;rw[StateT.run_pure];have hl:d.length<2:=by rwa[Nr]at v
  refine Na (Nh (fin (SortSt.mk' general' (d.toArray.zip d.toArray) #[] 7 nO) s.toks d (List.Perm.refl _) ?_ ?_ rfl))
  ·exact pw2 hl
  ·show(d.toArray.zip d.toArray).map (·.2)=d.toArray;apply Array.ext
   ·simp
   ·intro i h1 L;simp
 ·rw[bQ v,bQ v];have L:2<=d.length:=by rw[Nr]at v;exact NZ.mp v
  refine Na (N8 (hk L g H (λu m=>u=κ/\m={ s with heap:=g }) gD) (jZ u m z) (mB z));show sB z;have h0:0<d.length:=Ni aE L;have U:∀i,i<d.length->CW∈d:=λi B=>by rw[D1,Nj B];exact E4 B
  obtain⟨p,ev,ok,inc⟩:=QjK (n:=d.length) (g:=λi=>f (d.getD i Value.none)) h0;refine Na (N8 (kat_run (Q:=λst m=>(arrOf st).map (·.2)=List.toArray (p.toList.map λi=>CW)/\failedOf st=nO/\jd5) rfl L F (G:=λS m=>S=p/\jd5) (λS st m c1 c2 c3 X=>⟨by rw[kat_snds rfl c2,X.1],c3,X.2⟩) (ev.wp (cmp:=kas_ask prog w A u d) (s:={ s with heap:=g }) (λi j tk C B D q=>hc g H _ (U i B) _ (U j D) tk C q) (λt=>⟨rfl,t,rfl⟩) s.toks)) (jZ r m z) (fR z));obtain⟨Z,Y,t,rfl⟩:=z;have pr:p.toList.Perm (List.range d.length):=by have:=Array.perm_iff_toList_perm.mp ok.pm;show j8
  have er:(List.range d.length).map (λi=>CW)=d:=by
   apply List.ext_getElem
   ·simp
   ·intro i T h4;simp at T;simp[T]
  refine fin r.2 t (p.toList.map λi=>CW) ?_ ?_ Z Y
  ·have:=pr.map λi=>CW;rwa[er]at this
  ·rw[DE,D8];intro i j B D O;rw[NP]at B D;have q:=inc i j (Nw O) (Ni D (Nt ok.sz));unfold K at q;rw[DQ,DQ,NH B,NH D]at q;exact q
#print "-"
#print "-Sl"
namespace Mi
open L2 Sb
noncomputable def QmU(a b:W)(h:MH):bF:=(Qah h a).bind λc=>(nrm b).bind λk=>(Y7 c k).map λv=>(v,h)
section
variable{X:Cx}{o i e a b:Expr}{mo mi mv ma mb:ME}{pos pos':Pos}
theorem QnG(hu:gH)(ha:qQ)(hb:BM)(hs:Qpl b):PM X (yQ a b) (Qn QmU ma mb):=by
 show wY d C q;refine QfO L4.lookup hs (thn (ha d s C H _ I P6) (aM u O j));show c7 x H1 I1 S Y j;refine thn (hb d O C H1 _ I1 Y) λiv s2 j=>?_;obtain⟨y,G,I2,P,R,h,a,b,w,h',l,D,U,e,k⟩:=j;unfold QmU at e;show dJ Z e1 e2 e;show dJ E e3 e4 e2;show eD v g e6 e4;obtain⟨n,rfl,hn⟩:=Ks e1;obtain⟨kx,xs,hx,dr,zl,lo,T,dd⟩:=WH I2 l hn;obtain⟨c,rfl,rfl,f⟩:=U7 I2 l U P e3;show dW D;obtain⟨aa,rfl⟩:=D;show lQ u S;have F:=QfK (k:=E) T;refine⟨dd.typeIs,?_⟩
 rcases Qe2 (k:=E) dr with z|⟨w',N,M,L,J⟩
 ·rw[z.1]at g;cases g
 ·show bK M g;rw[L]at F;obtain⟨u',r,m⟩:=RelO.some_of F;show hV p B t r;subst t;exact wpAny_getItem_heap (Qiw hu) f dd B ⟨N,G,I2.tok _,m,k R G _ bV l J⟩
#print "-"
#print "-Mi"
namespace Sb
open L2 PySem.W
section
variable{prog:Program}{w:World}{A:Around}{E:bJ}{s:Shared}
theorem Qia(J:f5)(lo:CM)(hd:AI)(hz:Ha)
  (h:∀(g:Heap) (tk:Nat) (i:aX),i=es.toList.map (·.key)->M9->s.heap.objs.size<=g.objs.size->Q i { s with heap:=g,toks:=tk }):wpAny aT A (collect (aD d)) Q E s:=by
 have t:d<s.heap.objs.size:=hd.lt;unfold collect;refine Na (FK (Es Yag (show wpAny _ _ (do again (.builtin "list.__iadd__" ⟨[<-newList [],aF d],[]⟩)) _ _ s from ?_)));refine Na (FY (Nh ⟨Ig _ cF,js1⟩));rw[Et F.plain_list_iadd _]
 have fin:∀(r:Result) (n:Shared),(r=.ok (.ret d8)/\∃g tk,∃i:aX,∃z,i=es.toList.map (·.key)/\M9/\xY g s=ju8/\jh9)->(match r with
   | .ok (.ret v)=>wpAny aT A (match v with
    |aF a=>do
     match (<-load a).data with
     |.seq C _=>pure C.toList
     |_=>R8
    |_=>R8) Q E n
   |.ok _=>False
   |.error e=>E e n):=by
  rintro r n ⟨rfl,g,tk,i,z,str,k,hN,rfl⟩
  show zS7 i;exact Nh (h g tk i str k (Nw (NC hN)))
 refine N8 (kdl_extend (A:=A) (s:={ s with heap:=s.heap.push (St.lsO #[] 0) }) (R:=λr n=>r=.ok (.ret d8)/\∃g tk,∃i:aX,∃z,i=es.toList.map (·.key)/\M9/\xY g s=ju8/\jh9) (Qb8 (es:=es) (ep:=ep) lo) J (hd.at λo e=>Nl _ e) s.heap.objs.size (EC t) (EC t) d8 0 ze5 (λg tk m c H hS l=>?_) hz) ?_ ?_
 ·refine⟨rfl,g,tk,m.toList,c,?_,λb o e=>H b o (NB gV) w6,by rw[D9];exact hS,rfl⟩;show wF j;rw[Nq]
  by_cases x:j<es.size
  ·have u:j<m.size:=by rw[l.1];exact x
   obtain⟨e,y,B⟩:=N' l m u;rw[NH x]at y;cases y;rw[N1,NH u,B,N1,NH x];rfl
  ·have G:m.toList.length<=j:=by rw[NP,l.1];exact NZ.mp x
   have D:es.toList.length<=j:=by rw[NP];exact NZ.mp x
   rw[NW G,NW D];rfl
 ·intro f n q;cases f with
  |done f=>exact zj1
  |again z=>exact⟨q.1,DN q.2 λr p I=>fin r p I⟩
 ·intro e n q;exact zj1
#print "-"
#print "-Sb"
namespace Qd
open L2 Mi
section
variable{prog:Program}{w:World}{A:Around}{E:bJ}
noncomputable abbrev Kv:=Tr×Addr×Value
def PairQ(prog:Program)(w:World)(h:Heap)(v:Value)(p:Kv):Prop:=∃a o n,v=aF a/\cQ a=sO o/\o.cls=i6/\o.data=.seq #[.ref p.2.1,p.2.2] n/\AD h p
noncomputable def mrgQ(kvs ps:Ca):Ca:=ps.foldl (λa p=>storedH a p.1 p.2.1 p.2.2) kvs
theorem Qou(kvs:Ca)(k:Tr)(a:Addr)(v:Value):(storedH kvs k a v).length<=kvs.length+1:=by
 unfold storedH;show S5
 ·rw[NK,NQ,F7];lia
theorem Qpc(h1:∀x∈kvs,AD h x)(h2:(QA prog w).is h k a):∀x∈storedH kvs k a v,AD h x:=by
 unfold storedH;intro x b;split at b
 ·show i5 y c b;unfold YaX;split<;>exact h1 y c
 ·rcases NU.mp b with b|b
  ·exact h1 x b
  ·cases gF b;exact h2
theorem Qek(e:Sb.Ex h h'):∀{n:Nat} (k:Tr) (v:Value),MZ k->IsT h' n k v
 |0,_,_,x=>x.elim
 |_+1,.i _,_,x=>x
 |_+1,.s _,_,x=>x
 |n+1,.t _,_,x=>by
  obtain⟨a,its,rfl,h1,h2⟩:=x;exact⟨a,its,rfl,h1.at λo q=>e a o q,Paired.mapP h2 λk v z=>Qek e k v z⟩
theorem Qfg(e:zg4)(c:∀x∈kvs,AD g x)(a:∀o,lP D o)(m:zF2 h):zF2 h':=by
 obtain⟨o,p,q,n,l,j,i,_,f,d⟩:=m;exact⟨o,p,q,a _ n,l,j,i,λx b=>Qek e _ _ (c x b),f,d⟩
theorem Qpo{ps:Ca}(hu:A.units+12<cLine)(hh:rV)(J:l≠I)(q:D≠I)(N:D≠l)(G:∀b o,fU g=sO o->b≠I/\b≠D)(y:S8)(hp:∀(j:Nat) (v:Value) (p:Kv),Ty->M1->PairQ prog w g v p) :
  ∀(k i:Nat) (s:Shared) (kvs:Ca),items.size-i=k->i<=items.size->ju7->AB->Sb.Ex g s.heap->(∀x∈kvs,AD g x)->DctE prog w s.heap D kvs->kvs.length+k<=sizeLine ->
  (∀h' tk,DctE prog w h' D (mrgQ kvs (ps.drop i))->zg4->R (.ok oA) { s with heap:=h',toks:=tk })->∀t,codeAny aT A (.builtin "dict.update.loop" ⟨[aF D,aF I,zO,.none],[]⟩) R s:=by
 show zV2 J
 induction k with
 | zero=>
  intro i s kvs hk hi h f Z d S hz M t;have L:i=items.size:=aQ
  subst L
  refine Es Dc.e_upd (by
   rw[Et Dc.p_upd _];refine(show wpAny _ A.in1 (pyNext (aD I)>>=_) _ _ s from Na (W.done s _ _ (fF h f) λh' tk u=>?_));have c:zg4:=zS1;refine(show zR4 from Na (Nh (Nh (M h' tk ?_ c))));rw[OU (Nt y)]
   exact Qfg c d (λo e=>u D o (bZ q) e) S)
 | succ k ih=>
  intro i s kvs hk hi h f Z d S hz M t;have m:i<items.size:=aQ
  refine Es Dc.e_upd (by
   rw[Et Dc.p_upd _];refine(show wpAny _ A.in1 (pyNext (aD I)>>=_) _ _ s from Na (W.item i s _ _ m (fF h f) λv h' tk hv r u=>?_));have c:zg4:=zS1;have z:i<ps.length:=nA y m
   obtain⟨a,o,n,rfl,h1,X,U,h4⟩:=hp i v ps[i] hv (Nj z);have B:=c a o h1;refine(show wpAny _ A.in1 (holding [fJ a] _>>=_) _ _ _ from Na (N0 (Na (wpAny_tryCatch (show wpAny _ _ (Builtin.Dict.pairItems (aD a)) _ _ _ from ?_)))));show zW0 B X;rw[if_pos aE];refine Na (show wpAny _ _ (seqItems? (aD a)) _ _ _ from ?_);unfold seqItems?;refine Na (L0 B ?_);rw[U];refine Nh (Nh (show wpAny _ A.in1 (holding [.ref zd6,zd7] (dictSet D (.ref zd6) zd7)) _ _ _ from N0 ?_));have Q:zF2 h':=Qfg c d (λo e=>u D o (bZ q) e) S;refine W7 (s:={ s with heap:=h',toks:=tk }) (show mG+8<cLine by lia) (Qek c _ _ h4) Q aH (aM X P F);have Y:Sb.Ex g X:=λb o e=>by rw[F.2 b (G b o e).2];exact c b o e
   refine Nh ⟨Dk Dc.p_upd _,ih (i+1) _ (storedH kvs zj5 zd6 zd7) aH m (r.1.at (S0 F I q)) (r.2.at (S0 F l N)) Y (Qpc d h4) P (by have:=Qou kvs zj5 zd6 zd7;lia) (λU C O H=>?_) _⟩;refine M U C ?_ H;rw[EY z]
   exact O)
variable{s:Shared}
theorem call_pairsQ{ps:Ca}(M:A.units+16<cLine)(G:f5)(B:c9 s l=sO { cls:=dE,dict:=nO,data:=.seq items m,slots:=L })(z:S8)(hz:zw1)
  (I:∀(j:Nat) (v:Value) (p:Kv),Ty->M1->PairQ prog w s.heap v p)
  (h:∀h' tk,DctE prog w h' s.heap.objs.size (mrgQ [] ps)->Sb.Ex s.heap h'->Q d8 { s with heap:=h',toks:=tk }):wpAny aT A (call uQ [aF l]) Q E s:=by
 refine Lu (Q₁:=λobj c=>obj=eZ s/\c={ s with heap:=Ah }) F.kt_called_dict (Yaj _) F.entry_dict_init (kt_code_dict_new _ gD) λobj c i=>?_;show sB i;have a:DctE prog w (s.heap.push { cls:=sJ,data:=zH }) s.heap.objs.size []:=⟨_,_,_,dF,AR,rfl,rfl,aP,aP,rfl⟩
 have ty:Shared.TypeIs { s with heap:=Ah } d8 "dict":=Heap.DictOfH.typeIs (s:={ s with heap:=Ah }) a.of;show AJ f B;have d:=Nl { cls:=sJ,data:=zH } B;refine⟨ty,YaM _ _,?_⟩;show zW3;refine Na (Na (FO ty (show wpAny _ _ (pure (s.heap.objs.size,[fJ l])) _ _ _ from Nh (show wpAny _ _ (Builtin.Dict.updateFrom "dict.__init__" s.heap.objs.size (aD l) [] .none) _ _ _ from ?_))));unfold Builtin.Dict.updateFrom;refine Na (Dt (T:="list") (gN d) ?_);rw[if_pos aE];refine Na (Dc.keys_miss d (eC G) (aM q t n));show zP4 q t n d;have y:Sb.Ex s.heap (q.push { cls:=S2,data:=.fields #[aF l,qY] }):=λb o e=>Nl _ (n _ _ w6)
 have u:s.heap.objs.size<q.objs.size:=by
  obtain⟨o,_,_,e,_⟩:=a;exact NC (n _ _ e)
 have D:DctE prog w (q.push { cls:=S2,data:=.fields #[aF l,qY] }) s.heap.objs.size []:=Qfg y aB (λo e=>Nl _ (n _ _ e)) a;refine Nh ⟨Dk Dc.p_upd _,Qpo (l:=l) (g:=s.heap) (items:=items) (ps:=ps) (by show mG+12<cLine;lia) (eC G) (NB (NT f u)) (NB u) (EC f) (λb o e=>⟨NB (NT gV u),NB gV⟩) z I B3 0 _ [] rfl gX ⟨_,dF,rfl,rfl⟩ (zH7 y B) y aB D (by simpa using hz) (λJ r C x=>?_) _⟩;exact⟨rfl,h J r (bZ C) x⟩
#print "-"
#print "-Qd"
namespace Mi
open L2
noncomputable def prQ:aI->Option (List (Tr×W×W))
 |[]=>sO []
 |.tup [k,x]::r=>(nrm k).bind λt=>(prQ r).map ((t,k,x)::·)
 |_=>nO
noncomputable def mgQ(a:kH)(ps:Hn):kH:=ps.foldl (λb p=>Qcg b p.1 p.2.1 p.2.2) a
noncomputable def mgX(a:gB)(ps:gB):gB:=ps.foldl (λb p=>QcF b p.1 p.2.1 p.2.2) a
noncomputable def X8(ws:aI)(h:MH):bF:=match ws with
 |[a]=>(lsW h a).bind λb=>(prQ b).bind λps=>if ps.length<=10000000 then sO (eX,h++[.dct (mgQ [] ps)])else nO
 |_=>nO
section
variable{X:Cx}{pins:bT}{σ:L2.St}{H:Hp}{s:Shared}{R:Rn}{h:MH}
noncomputable abbrev PrR(K:Ng)(R:Rn):Hn->gB->Prop:=Paired λp q=>p.1=q.1/\Rw K R p.2.1 zJ8/\nrm p.2.1=sO q.1/\Rw K R p.2.2 q.2.2
theorem Qgf(I:bW)(f:kG):∀{ys:aI} {ps:Hn} {xs:bA} {us:aX},prQ ys=sO ps->Rws X.K R ys xs->iI ->
  ∃(kx:gB) (b:List Qd.Kv),PrR X.K R ps kx/\Qdj kx b/\b.length=us.length/\∀(j:Nat) (u:Value) (p:Qd.Kv),us[j]?=sO u->b[j]?=sO p->Qd.PairQ X.prog X.w s.heap u p
 |[],ps,xs,us,e,r,v=>by
  cases e;show iD r;cases v;exact⟨[],[],.nil,.nil,rfl,λj u p g=>gL g⟩
 | .tup [k,x]::ys,ps,xs,us,e,r,v=>by
  show dJ y A Q e;obtain⟨qs,P,O⟩:=kS Q;subst O;show i3 r z Z m G;cases v with
  |@cons _ u _ us g C=>
  obtain⟨kx,b,Y,U,T,S⟩:=Qgf I f P G C;show dW m;obtain⟨a,vz,rfl,L,J⟩:=m;obtain⟨M,N,⟨o,g1,g2,n,g3⟩,_⟩:=I.tuple (Jx f.sub L);show P8 z1 B l F J;obtain⟨u1,i,rfl,E,D⟩:=QbR N;obtain⟨c,rfl,rfl,d⟩:=U7 I f l E A;obtain rfl:u=fJ a:=g;refine⟨(y,c,B)::kx,(y,c,i)::b,.cons ⟨rfl,l,A,F⟩ Y,.cons ⟨rfl,rfl,D⟩ U,hY T,λj u p t q=>?_⟩;cases j with
  |zero=>
   have f1:fJ a=u:=cN t
   have f2:(y,c,i)=p:=cN q
   subst f1;subst f2;exact⟨a,o,n,rfl,g1,g2,g3,d⟩
  |succ j=>exact S j u p (bZ t) (bZ q)
theorem Qgn{K:Ng}:∀{ps:Hn} {kx:gB} {c:kH} {e:gB},PrR K R ps kx->DctR K R c e->DctR K R (mgQ c ps) (mgX e kx)
 |_,_,_,_,.nil,d=>d
 |_,_,_,_,zt5,d=>by
  show DctR K R (mgQ (Qcg _ p.1 p.2.1 p.2.2) _) (ju9 q);rw[h.1];exact Qgn t (Qb2 d h.2.1 h.2.2.1 h.2.2.2)
theorem Qec:∀{kx:gB} {c:List Qd.Kv} {e:gB} {f:List Qd.Kv},Qdj kx c->Qdj e f->Qdj (mgX e kx) (Qd.mrgQ f c)
 |_,_,_,_,.nil,d=>d
 |_,_,_,_,zt5,d=>by
  show Qdj (ju9 p) (Qd.mrgQ (storedH _ q.1 q.2.1 q.2.2) _);rw[h.1,h.2.1];exact Qec t (Qbx d h.2.2)
theorem Qkg:∀(kx a:gB),(mgX a kx).length<=a.length+kx.length:=by
 intro kx
 induction kx with
 |nil=>
  intro a;exact Nv _
 |cons p kx c=>
  intro a;have e:=c jo6;have d:=GR (kx:=a) (k:=p.1) (b:=p.2.1) (v:=p.2.2);show(mgX jo6 kx).length<=_;rw[NQ];lia
theorem YL(hc:fH)(hu:gH):CallR X uQ (Fs X.K X8):=by
 intro pins s σ H G us Q I r q;obtain⟨R,h,ws,w,h',l,d,e,k⟩:=q;show uZ X8 e
 ·obtain⟨ys,e1,e2⟩:=dH e;obtain⟨ps,e3,x⟩:=dH e2;split at x
  ·rename_i hz;cases x;show q5 v O d;show lW G P N l O e1;show lZ M r;show zH8 M;obtain⟨t,rv,n,hl⟩:=f0 P;obtain⟨D,L,F,E,d3,d4⟩:=Qgf I l e3 N rv;have l1:=Ef F;have l2:=Ef E;obtain⟨⟨oc,T,U,S⟩,m,n,C,B,c⟩:=n;dsimp only at C B c;subst C B c;have Z:10000000<=sizeLine:=d5
   refine Qd.call_pairsQ (ps:=L) (items:=t.toArray) (NT (El aE _) hu) uY n (bZ d3) (by rw[Nr];lia) (λj u p h1 h2=>d4 j u p (bZ h1) h2) λg tk dd Y=>?_;have hp:=Cy;obtain⟨R3,J,i,f⟩:=l.new (mo:=.dct (mgQ [] ps)) (o:=.dT (mgX [] D)) hp λR' y=>⟨_,rfl,Paired.mapP (Qgn F .nil) (zT7 y)⟩
   obtain⟨o,es,ep,b1,b2,b3,b4,_,b6,b7⟩:=dd;refine⟨eZ s,_,I.laid (t':=tk) Y c8 (show ObjOk X.prog X.w _ _ _ (.dT _)from⟨?_,?_,_,Qec E .nil,o,es,ep,b1,b2,b3,b4,b6,b7⟩),rfl,k4 R3 J i f⟩
   ·have:=Qkg D [];show iZ;lia
   ·exact zP5
  ·cases x
 ·cases e
#print "-"
#print "-Mi"
namespace L2
theorem QhT:typeLookup je2 "__len__"=pure nO:=by
 show HG
theorem QjI:typeLookup je2 "__length_hint__"=pure (sO (.builtin "list_reverseiterator.__length_hint__")):=by
 show HG
section
variable{prog:Program}{w:World}{A:Around}{E:bJ}{s:Shared}{r d:Addr}{its:eN}
theorem QlN{Q:Bool->eA}(e:s.TypeIs (aD r) "list_reverseiterator")(h:Q false s):wpAny aT A (Builtin.List.listLengthHint (aD r)) Q E s:=by
 unfold Builtin.List.listLengthHint;refine Na (Dy e QhT (show wpAny _ A (specialOf (qW r) (Str.ofString "__length_hint__")>>=_) _ _ _ from Na (Dy e QjI ?_)));generalize a:("list_reverseiterator.__length_hint__":String)=c
 wp_delta
 rw[show splitId c=sO ("list_reverseiterator","__length_hint__")from by subst a;show C9];subst a;exact Na (FR (b:=true) e RP (Nh h))
theorem QfG{R:Result->eA}(B:f5)(hit:zY3)(z:s.heap.IsList d its)(S:Addr)(m:S≠r)(t:S≠d)(n:d≠r)(res:Value)(g:Nat)(hS:c9 s S=sO { cls:=dE,data:=.seq #[] g })(y:Sv)
  (D:∀h' tk a j,(∀b o,b≠S->b≠r->fL)->oX S=sO { cls:=dE,dict:=nO,data:=.seq a j,slots:=#[] }->zS9->R (.ok (.ret res)) { s with heap:=h',toks:=tk }) :
  wpAny aT A.in1 (Builtin.List.listExtendWith (aD S) (aD r) res)
   (λfin h=>match fin with|.done f=>R (.ok f) h|.again j=>j.quiet=true/\codeAny aT A j R h) (λe h=>R (.error e) h) s:=by
 have W:=Walks.listRev (prog:=prog) (w:=w) (A:=A.in1) B r d n its;unfold Builtin.List.listExtendWith;refine Na (Dt (T:="list_reverseiterator") hit.typeIs ?_);have F:Builtin.List.listSameRef (aD S) (aD r)=false:=jh7 m
 rw[if_neg (by rw[F];decide)];refine Na (La hit (Na (N0 (QlN hit.typeIs ?_))));rw[if_neg aE];have q:S∉[r,d]:=zX m t
 refine Nh ⟨Dk IQ _,Yaf W.toS y S q res its.size 0 _ #[] g rfl gX ⟨NS _,by simpa using hit,z⟩ hS (ItemsOf.nil _) λh a j x u l=>?_⟩;rw[Moved.eq_with x];refine D h.heap h.toks a j (λb o C p e=>x.heap b o (λc=>?_) e) u l
 rcases NM.mp c with G|c
 ·exact C G
 ·exact p (NG.mp c)
theorem QkU{Q:bJ}(C:f5)(hit:zY3)(x:s.heap.IsList d its)(l:d≠r)(z:Sv)
  (D:∀h' tk a q,(∀b o,b≠r->fL)->xY h' s=sO { cls:=dE,dict:=nO,data:=.seq a q,slots:=#[] }->zS9->Q d8 { s with heap:=h',toks:=tk }) :
  wpAny aT A (call rZ [aF r]) Q E s:=by
 refine Lu (Q₁:=λobj c=>obj=eZ s/\c={ s with heap:=s.heap.push { cls:=dE,data:=.seq #[] } }) PySem.F.called_list (PySem.F.typeCall_list_1 _) PySem.F.entry_list_init (code_list_new _ gD) λobj c g=>?_;show sB g;have hS:(s.heap.push { cls:=dE,data:=.seq #[] }).get? s.heap.objs.size=sO { cls:=dE,data:=.seq #[] }:=dF;have u:r<s.heap.objs.size:=let⟨_,j,_⟩:=hit;NC j
 have t:d<s.heap.objs.size:=let⟨_,j,_⟩:=x;NC j
 refine⟨yL,PySem.F.args_list_init_2 _ _,?_⟩;refine(show wpAny _ _ (do let old <-Builtin.List.listItems d8;Builtin.List.listUpdate d8 (λ_=>#[]);letGo old.toList.reverse;Builtin.List.listExtendWith d8 (aD r) .none) _ _ _ from Na ?_);unfold Builtin.List.listItems;refine Na (FH hS rfl fP);refine(show wpAny _ _ (updateSeq s.heap.objs.size (λ_=>#[])>>=λ_=>letGo (#[]:eN).toList.reverse>>=λ_=>Builtin.List.listExtendWith d8 (aD r) .none) _ _ _ from Na (OG hS rfl ?_));have n:=Eh (Obj.mapSeq (λ_=>(#[]:eN))) hS rfl
 have f:∀b o,b≠s.heap.objs.size->c9 s b=sO o->((s.heap.push { cls:=dE,data:=.seq #[] }).update s.heap.objs.size (Obj.mapSeq (λ_=>(#[]:eN)))).get? b=sO o:=
  λb o m e=>(EM _ _ (EI m)).trans w6
 refine Na (wpAny_letGo ?_);refine QfG (A:=A.in1) C (hit.at λo e=>f r o (NB u) e) (x.at λo e=>f d o (NB t) e) _ (EC u) (EC t) l .none _ n z λh' tk a q B p h=>?_;exact⟨rfl,D h' tk a q (λb o m e=>B b o (NB gV) m (f b o (NB gV) e)) p h⟩
#print "-"
#print "-L2"
namespace Mi
open L2
noncomputable def QgN(ws:aI)(h:MH):bF:=match ws with
 |[a]=>(lsW h a).map λws=>(eX,h++[.lst ws.reverse])
 |_=>nO
theorem Rws.reverse{K:Ng}{R:Rn}:∀{ws:aI} {a:bA},iW a->Rws K R ws.reverse a.reverse:=by
 intro ws
 induction ws with
 |nil=>
  intro _ h;show iD h;show tT
 |cons w ws b=>
  intro _ h;show i3 h v a d c;rw[Iz,Iz];exact Rws.append (b c) (Rws.cons d Rws.nil)
section
variable{X:Cx}
theorem QdM{p1 O q l:Pos}(hc:fH)(hg:Gl X "list")(hm:X.mg "list"=nO)(M:zF1)(G:zA0)(he:zj2)(P:nB:=by rfl) :
  PM X (.Call (.Name "list" p1) [jb5] [] q) (mFn QgN (Qc me Ql)):=by
 show wY r Z B;show U' A U e1 B;obtain⟨⟨as,h2⟩,e2,e3⟩:=dH e1;show dD a n e4 e5 e2;obtain⟨⟨bs,h3⟩,e6,e7⟩:=dH e5;show kR e6 e7;refine EL (VS I hg hm DF (Eb ?_ (Q2 rfl) zL) aE aE);rw[Q2 (e:=jb5) rfl];refine Dg (EL (VS I M G boot_reversed (Eb ?_ (Q2 P) zL) aE aE));rw[Q2 P];refine Dg (thn (he r s Z H (CC v Y R2 R n a) I ⟨R,A,h,a,n,rh,st,e4,Se Y i E⟩) (aM u g B));obtain⟨v,H1,I1,ru,R2,x2,i,E⟩:=B;refine E9 ?_;obtain⟨ys,e8,e9⟩:=kS e3;cases e9;show lW N q1 r2 i E e8;cases ru;show zi1 d F S q1;have L:=rv.length;refine call_reversed_list F.isList (E9 ?_);have T:∀b o,c9 g b=sO o->(g.heap.push { cls:=zr1,data:=zm3 }).get? b=sO o:=rY;have z1:(g.heap.push { cls:=zr1,data:=zm3 }).objs.size=g.heap.objs.size+1:=DK ..;have J:ad<g.heap.objs.size:=let⟨_,ho,_⟩:=F.isList;NC ho
 refine QkU (s:={ g with heap:=g.heap.push { cls:=zr1,data:=zm3 } }) (its:=d.toArray) (I1.ok.hd hc) ⟨_,dF,rfl,rfl⟩ (F.isList.at λo e=>T _ o e) (NB J) (Tq L S) λU tk f c kp eL m=>?_
 have hv:Vals N.reverse f.toList:=by
  have:f.toList=d.reverse:=by
   show wF j;have n:=m.1;rw[Nr]at n
   by_cases z:j<d.length
   ·have t:j<f.size:=Ni z (cL n);have:=N' m f t;rw[Nr,Dx]at this;rw[N1,NH t,IS z,this]
   ·rw[NW (by simpa[n]using NZ.mp z),NW (by simpa using NZ.mp z)]
  rw[this];exact Vals.reverse rv
 have hp:=I1.hok.fresh (Ff g.heap.objs.size);obtain⟨R3,x3,D,C⟩:=i.new (mo:=.lst ys.reverse) (o:=.lst N.reverse) (p:=Hl g) hp λR' x'=>⟨_,rfl,Rws.mono x' _ _ (Rws.reverse r2)⟩
 have y:=eL;rw[z1]at y ⊢;exact⟨.ref (g.heap.objs.size+1),_,I1.laid (t':=tk) (λb o e=>kp b o (NB gV) (rE T)) (Ff _) (show ObjOk X.prog X.w _ U _ zT from⟨by rw[Ds];exact S,f.toList,c,hv,by rw[y]⟩),rfl,kk R3 _ _ (dX x2 x3) D C⟩
#print "-"
noncomputable def Qf7(a:W)(ws:aI)(h:MH):bF:=match ws with
 |[b]=>(Wb h a).bind λc=>(Wm b).map λk=>((Wc c k).getD .non,h)
 |_=>nO
noncomputable def Qne(n:Nat)(k:Key)(v:W)(kvs:dM W)(h:MH):bF:=match Wc kvs k with
 |dY x=>d7 x h
 |none=>if Sg then sO (v,h.set n (.dic (QaY kvs k v)))else nO
noncomputable def Ql1(a:W)(ws:aI)(h:MH):bF:=match a,ws with
 |aF n,[b,v]=>(Wb h (aD n)).bind λc=>(Wm b).bind λk=>Qne n k v c h
 |_,_=>nO
section
variable{X:Cx}
theorem Qho(E:gH):Qik X "dict.get" Qf7:=by
 intro g s S H x T v us Q I t rv q;obtain⟨R,h,a,U,w,h',f,B,d,e,k⟩:=q;unfold Qf7 at e;split at e
 ·rename_i b;show dJ C O N e;show eD i M L N;show uT F O;show q5 y u d;obtain⟨Z,rfl,r⟩:=KH rv;obtain⟨_,G,kx,D,P⟩:=f.dicAt B F;have J:=Xn u M;subst J G;show lQ v t;refine QmE (NT (El aE _) E) I (DGet.k (k:=i) D) r (eE p s' j c)
  rcases Ac i P with z|⟨p,Y,o,m,l⟩
  ·rw[z.2]at c;rw[z.1]at k;exact⟨_,H,j,c,k R H _ bV f zy1⟩
  ·rw[m]at c;rw[o]at k;exact⟨_,H,j,c,k R H _ bV f l⟩
 ·cases e
theorem QkN(hu:gH):Qik X "dict.setdefault" Ql1:=by
 intro L s σ H x xs v us Q I Y rv q;obtain⟨R,h,a,ws,w,h',m,ra,l,e,k⟩:=q;unfold Ql1 at e;split at e
 ·rename_i n b dv;obtain⟨aa,e1,e2⟩:=dH e;show dJ f e3 c e2;obtain⟨n',r,hn⟩:=VV e1;cases r;show P8 y B Z J l;obtain⟨uy,T,rfl,U,G⟩:=QbR rv;obtain⟨t,ey,M,N,i⟩:=m.dicAt ra hn;have eb:=Xn Z e3;subst eb ey;show lQ v Y;obtain⟨z,hd,S,rel,dd⟩:=Qhn I.hok N;have d:=rel.val f;refine Oe Lv dd.typeIs PySem.F.entry_dict_setdefault (PySem.F.args_dict_setdefault_3 _ _ _) (kt_meets_setdefault Hh _ (QaM U) hd T) ⟨S,dd,?_,λp hp=>?_,λo u g hs=>?_⟩
  ·rw[<-Ef rel];exact z
  ·rw[hp]at d
   rcases Ac f i with z|⟨P,E,D,j,C⟩
   ·rw[z.2]at d;exact d.elim
   ·unfold Qne at c;show bK D c;rw[j]at d;exact⟨E,H,hG,d,k R H _ bV m C⟩
  ·rw [o]at d
   rcases Ac f i with O|⟨P,E,D,j,C⟩
   ·unfold Qne at c;rw[O.1]at c;show rS c
    ·rename_i hl;cases c;have he:∃q,u.get? iA=sO q:=let⟨q,_,_,hq,_⟩:=g;⟨q,hq⟩
     have hz:(Qbd M f B).length<=sizeLine:=by
      have h1:=K0 M f B;have h2:=Ef i;lia
     exact⟨B,_,Qbv (t':=nG) I (zv3 N) hs he (QfY hz hd (rel.put f G) g),G,k R _ _ bV (m.put t ⟨_,rfl,QbT i J⟩) J⟩
    ·cases c
   ·rw[j]at d;exact d.elim
 ·cases e
#print "-"
#print "-Mi"
namespace St
theorem subT_set:isSubtype yG B9=sS:=by rw[FL];kernel_rfl
theorem subT_fro:isSubtype yG (.type "frozenset")=sS:=by rw[FL];kernel_rfl
section
variable{prog:Program}{w:World}{A:Around}{E:bJ}{s:Shared}{l:Addr}{items:eN}
theorem Qs2{Q:bJ}(O:f5)(N:Ax)(F:zz9 r)(P:xH)
  (h:∀(h':Heap) (tk:Nat),zm9 r->(∀b o,pE->fL)->Q d8 { s with heap:=h',toks:=tk }) :
  wpAny aT A (Builtin.«set.__init__» ⟨[eZ s,aF l],[]⟩) (λfin y=>fin=.done oA/\Q d8 y) E { s with heap:=s.heap.push gA }:=by
 have hS:(s.heap.push gA).get? s.heap.objs.size=sO gA:=dF;have hT:Shared.TypeIs { s with heap:=s.heap.push gA } d8 "set":=yL
 show Ts N;show Px I;have g:(s.heap.push gA).get? l=sO { cls:=i6,dict:=f,data:=TX,slots:=a }:=Nl _ j;have n:(s.heap.push gA).IsTuple l items:=S7
 have n1:=subT_set;have Z:=subT_fro;have Y:(Sw==SI)=false:=d5
 show Pe H;refine DP n Uf;show AJ m j;have d:(s.heap.push gA).objs.size=xX:=DK _ _;have C:l≠(s.heap.push gA).objs.size:=RI
 have L:s.heap.objs.size∉[(s.heap.push gA).objs.size,l]:=by
  show Pk
 show zT2 F
 have M:zP3:=λi v e=>by
  have J:items.toList[i]?=sO v:=nA N1 e
  obtain⟨x,c,rfl⟩:=F.all v (j7 i J);refine⟨x,c,?_,rfl⟩;rw[<-F.strs,Nq,J];rfl
 refine QnH ((Walks.tuple (show rV by simp[O]) _ l C items).toS) s.heap.objs.size L BU r D M P B3 0 _ rfl gX ⟨⟨_,dF,rfl,rfl⟩,n.push _⟩ (UX zh5) (aM y t G);show c7 h' R X u z y;have T:R=s.gens:=t.gens;show PV U X t S T;refine PK u G;show Pf t
#print "-"
#print "-St"
namespace Mi
open L2
theorem Qgu:∀{a:aX} {ys:dO},IntsAre a ys->Vals (ys.map V.int) a
 |_,_,.nil=>.nil
 |_,_,.cons _ t h=>.cons qC (Qgu h)
theorem Qns{K:Ng}{h:Heap}{x:Str}{c:Addr}{n:Nat}(X:A4)(G:uP b)(a:AM=sO (sO (aD c)))
  (l:lD c=sO ⟨i6,dd,.seq its n,e⟩) (hz:Sv) (d:IntsAre its.toList ys):Glob K b x (.tup (ys.map .int)):=
 ⟨aF c,_,BZ,rfl,λR=>by
  unfold Rw
  exact⟨c,_,rfl,.inr ⟨_,its,n,l,rfl,rfl,hz,Qgu d⟩,QcN ys⟩⟩
noncomputable def inL:aI->Option (List Int)
 |[]=>sO []
 |aC x::r=>(inL r).map (x::·)
 |_=>nO
@[simp]theorem Qe6(l:dO):inL (l.map .int)=sO l:=by
 induction l with
 |nil=>rfl
 |cons x l a=>rw[ND,inL,a];rfl
theorem Qck:∀{ws:aI} {a:dO},inL ws=sO a->ws=a.map .int
 |[],a,e=>by cases e;rfl
 |aC x::r,a,e=>by
  show s9 t b e;rw[Qck b];rfl
 |lM::_,_,e=>jC e
noncomputable def QiX(l:dO):dO:=l.mergeSort (λa b=>decide (a<=b))
theorem Qca{l k:dO}(p:l.Perm k)(h:l.Pairwise (·<=·)):QiX k=l:=by
 have d:(QiX k).Pairwise (·<=·):=(Ow (le:=λa b:Int=>decide (a<=b)) (λa b c d e=>by simp at *;omega) (λa b=>zK9) k).imp λh=>cN h
 exact List.Perm.eq_of_pairwise (λa b _ _ d e=>Ld d e) d h ((Ll _ _).trans p.symm)
theorem QcZ{us:aX}{a:dO}(h:IntsAre us a):∀(i:Nat) (v:Value),us.toArray[i]?=sO v->∃x c,a[i]?=sO x/\v=.int x c:=by
 intro i v e;rw[Dx]at e
 induction h generalizing i with
 |nil=>simp at e
 |cons n t h b=>
  cases i with
  |zero=>simp at e;exact⟨n,t,rfl,e.symm⟩
  |succ i=>simpa using b i (bZ e)
theorem Qgi{K:Ng}:∀{a:dO} {xs:bA} {us:aX},Rws K R (a.map .int) xs->iI->IntsAre us a:=by
 intro a
 induction a with
 |nil=>
  show zl9
 | cons x a e=>
  show zR6;show dW b;subst b;cases v with
  |cons h t=>
   show aN c h;exact .cons x c (e d t)
theorem Qeh{K:Ng}:∀{d:dO} {us:aX},IntsAre us d->Vals (d.map V.int) us/\Rws K R (d.map W.int) (d.map V.int)
 |[],_,.nil=>⟨.nil,zB1⟩
 |_::_,_,.cons x c h=>by
  obtain⟨a,b⟩:=Qeh (K:=K) (R:=R) h;refine⟨.cons (C6 c) a,?_⟩;rw[ND,ND];unfold Rws;exact⟨_,_,rfl,y0,b⟩
#print "-Mi"
namespace L2
open PySem.SeqAt
theorem Qk0{prog:Program}{w:World}{A:Around}{E:bJ}{s:Shared}{d:Addr}{xs:uC}{Q:bJ}(c:A.in1.units<cLine)(hd:CM)(a:s.heap.DictOfH zb3 d xs)(h:Q (.bool false) { s with toks:=nG }):wpAny aT A (compareOp .In .none (aD d)) Q E s:=by
 show wpAny _ _ (do return .bool (<-contains (aD d) .none)) Q E s;show tX;unfold contains
 show zv2
 refine Na (Dy a.typeIs FZ.lookup ?_);show wpAny _ _ (if(sO (Value.builtin "dict.__contains__")==sO Value.none)=true then _ else _) _ E s;rw[jk7]
 refine Na (wpAny_callSpecialUnlessNone?_slot (name:=Str.ofString "__contains__") a.typeIs FZ
  (Ej FZ a.typeIs PySem.F.entry_dict_contains ?_ (PySem.F.args_dict_contains_2 _ _)))
 show wpAny _ _ (dictGet d .none>>=_) _ _ s;obtain⟨o,j,l,e,_,g,f,b,i⟩:=a;unfold dictGet;refine Na (N0 (Na (QeH (Na (Qe9 (s:={ s with toks:=nG }) (xs:=xs) c e g f b ?_)))));refine Nh ?_;show wpAny _ _ (Builtin.Dict.pendingKey? d .none>>=_) _ _ _;exact Na (wpAny_pendingKey_other hd (Nh ⟨_,rfl,Iy (Nh h)⟩))
#print "-L2"
namespace Mi
open L2
noncomputable def QdJ(b a:W)(h:MH):bF:=match b with
 |.non=>(Qah h a).map λ_=>(iL,h)
 |b=>Qc4 false b a h
theorem Qhw{X:Cx}(l:gH):OpR X T6 (F2 X.K QdJ):=by
 intro c s m H x y v u Q I i g o;obtain⟨R,h,a,b,w,t,d,j,f,e,k⟩:=o;unfold QdJ at e;split at e
 ·show eD p C B e;show zg3 r C;obtain⟨F,D,G,J,z,lo,E,dd⟩:=WH I d r;have q:x=.non:=j.non_eq;subst q;obtain rfl:v=Value.none:=i;show dW f;obtain⟨_,rfl⟩:=f;show lQ u g;exact Qk0 (show yZ<cLine by exact NT (El aE _) l) lo dd ⟨.bl _,H,hG,rfl,k R H _ bV d i9⟩
 ·exact QjF l c s m H x y v u Q I i g ⟨R,h,_,_,w,t,d,j,f,e,k⟩
#print "-Mi"
namespace Sb
open L2 PySem.W SeqAt
def IsP(h:Heap)(z:Int)(v:Value):Prop:=∃a t u,v=aF a/\h.IsTuple a #[.int (z/1000) t,.int (z%1000) u]
theorem QlB(p:IsP h y v)(q:vV):y=z:=by
 obtain⟨a,t,u,rfl,o,g,_,n,d⟩:=p;obtain⟨_,l,j,e,m,c,_,r,i⟩:=q;cases e;cases g.symm.trans c;have:=d.symm.trans i;injection this with e
 have:=congrArg Array.toList e;injection this with f b
 show qN f
 show qN b
 show qN b
 lia
open Classical in
noncomputable def zV(h:Heap)(v:Value):Int:=if x:∃z,vV then x.choose else 0
theorem QhQ(p:vV):zV h v=z:=by
 have a:∃z,vV:=fF z p
 unfold zV;rw[dif_pos a];exact QlB a.choose_spec p
theorem Gk(e:Ex h h')(p:vV):IsP h' z v:=by
 obtain⟨a,t,u,q,p⟩:=p;exact⟨a,t,u,q,Qg8 e p⟩
section
variable{prog:Program}{w:World}{A:Around}{E:bJ}{s:Shared}
theorem QjZ{Q:Bool->eA}(p:IsP s.heap x u)(q:IsP s.heap y v)(h:Q (decide (x<y)) s):wpAny aT A (keyLt' zm2 u v) Q E s:=by
 obtain⟨a,t,u,rfl,n,i,_,r,g⟩:=p;obtain⟨b,l,j,rfl,m,f,_,o,e⟩:=q;refine kat_lt i g f e (kat_cons (L8 ?_))
 by_cases c:x/1000=y/1000
 ·rw[c,show(y/1000==y/1000)=true by simp];refine kat_yes (kat_cons (L8 ?_))
  by_cases d:x%1000=y%1000
  ·rw[d,show(y%1000==y%1000)=true by simp];rw[show decide (x<y)=false by simp;lia]at h;exact kat_yes (kat_nil h)
  ·rw[show(x%1000==y%1000)=false by show kQ d];refine kat_no (kat_one _ _ (lt_int ?_));rw[show decide (x<y)=decide (x%1000<y%1000) by rw[decide_eq_decide];lia]at h;exact h
 ·rw[show(x/1000==y/1000)=false by show kQ c];refine kat_no (oneLt_int ?_);rw[show decide (x<y)=decide (x/1000<y/1000) by rw[decide_eq_decide];lia]at h;exact h
theorem QeK:∀(c:aX),(∀v∈c,∃z,vV)->∃fs,KatTups h c fs/\fs.length=c.length/\∀f∈fs,Looks aT h (typeOf f) (.type "int"):=by
 intro c
 induction c with
 |nil=>
  intro _;exact⟨[],trivial,rfl,yO d⟩
 |cons v c g=>
  intro e;obtain⟨z,a,t,u,rfl,o,i,j,l,hd⟩:=e v NF;obtain⟨fs,f1,f2,n⟩:=g (jT b m e);refine⟨.int (z/1000) t::fs,KatTups.cons i j hd rfl f1,hY f2,bG f d⟩
  show kD d
  ·exact Looks.of_pure rfl
  ·exact n f d
theorem QfN{a:aX}{h g:Heap}{Q:SortKind->eA}(c:∀v∈a,∃z,vV)(k:Ex h g)(h2:2<=a.length)(h:Q zm2 { s with heap:=g }):wpAny aT A (keyKind' a.toArray) Q E { s with heap:=g }:=by
 obtain⟨fs,f1,f2,d⟩:=QeK (prog:=prog) (w:=w) (h:=g) a λv b=>let⟨z,p⟩:=c v b;⟨z,Gk k p⟩
 exact kat_kind (s:={ s with heap:=g }) f1 (Ni (Ni aE h2) (cL f2)) d aB h
theorem Qlz{a:aX}{h g:Heap}{x y:Value}{Q:Bool->eA}(d:∀v∈a,∃z,vV)(k:Ex h g)(f:x∈a)(e:y∈a)(q:∀t,Q (decide (zV h x<zV h y)) { s with heap:=g,toks:=t }):wpAny aT A (keyLt' zm2 x y) Q E { s with heap:=g,toks:=tk }:=by
 obtain⟨_,c⟩:=d x f;obtain⟨_,b⟩:=d y e;have:=q tk;rw[QhQ c,QhQ b]at this;exact QjZ (s:={ s with heap:=g,toks:=tk }) (Gk k c) (Gk k b) this
variable{Q:bJ}
theorem sorted_keysP(I:f5)(lo:CM)(hd:AI)(a:(es.toList.map (·.key)).length<64)(u:∀v∈es.toList.map (·.key),∃z,IsP s.heap z v)
  (h:∀(D:Addr) (g:Heap) (tk c:Nat) (us:aX),us.Perm (es.toList.map (·.key))->zU0->M9->zx1->g.get? D=zp8->Q (aD D) { s with heap:=g,toks:=tk }) :
  wpAny aT A (call S9 [aF d]) Q E s:=by
 have F:Ha:=by rw[Ny,NP]at a;exact Nw (NT a aE)
 show zl7;refine Na (m:=zs2) (Nh (Na (Qia (eC I) lo hd F λi tk n M C B=>?_)));rw[<-M]at u h a;refine Na (FY ?_ (Nw (NT a aE)));have l:(i.push (pC n)).get? i.objs.size=sO (pC n):=dF;have t:∀g:Heap,(∀b o,b≠i.objs.size->(i.push (pC n)).get? b=sO o->fU g=sO o)->M9:=λg j b o e=>j b o (NB (NC (rE C))) (Nl _ (rE C));exact Na (N0 (Ej O3 (gN l) OH (Sl.sort_any (A:=A.in1.in1) (f:=zV s.heap) (s:={ s with heap:=i.push (pC n),toks:=tk }) l a (λL g j _ q=>QfN (s:={ s with toks:=tk }) u (t g j) L q) (λg j _ H _ G _ _ q=>Qlz u (t g j) H G q) λg r c us p o k J=>⟨_,rfl,Nh ⟨_,rfl,h i.objs.size g r c us p o (t g k) B J⟩⟩) (O4 _)))
#print "-"
#print "-Sb"
namespace Mi
open L2 Sb
noncomputable def wz(z:Int):W:=.tup [.int (z/1000),.int (z%1000)]
theorem Qnh(e:wz y=wz z):y=z:=by
 show qN e
 injection e with b a
 show qN b
 show qN a
 show qN a
 lia
open Classical in
noncomputable def Qko(ys:aI)(h:MH):bF:=if x:∃a:dO,ys=a.map wz/\zd4 then sO (eX,h++[.lst ((QiX x.choose).map wz)])else nO
theorem Qj5(e:zd4):Qko (a.map wz) h=sO (eX,h++[.lst ((QiX a).map wz)]):=by
 have b:∃z:dO,a.map wz=z.map wz/\z.length<64:=⟨a,rfl,e⟩
 unfold Qko;rw[dif_pos b,<-(YaN λ_ _=>Qnh).mp b.choose_spec.1]
noncomputable def QoV(ws:aI)(h:MH):bF:=match ws with
 |[a]=>(lsW h a).bind λb=>Qko b h
 |_=>nO
noncomputable def K8(ws:aI)(h:MH):bF:=match ws with
 |[a]=>(Qah h a).bind λb=>Qko (b.map (·.1)) h
 |_=>nO
section
variable{X:Cx}{pins:bT}{σ:L2.St}{H:Hp}{s:Shared}{R:Rn}{h:MH}
def QoD(K:Ng)(R:Rn)(g:Heap)(z:Int)(u:Value):Prop:=∃a,u=aF a/\IsP g z u/\Rw K R (wz z) (aD a)
theorem Qmm(I:bW)(i:kG):∀{c:dO} {xs:bA} {us:aX},Rws X.K R (c.map wz) xs->iI->Paired (QoD X.K R s.heap) c us:=by
 intro c
 induction c with
 |nil=>
  show zl9
 | cons z c p=>
  intro xs us r v;rw[ND,Rws.cons_iff]at r;obtain⟨y,f,rfl,d,m⟩:=r;cases v with
  |cons v1 g=>
   refine .cons ?_ (p m g);obtain⟨a,xs,rfl,q,b⟩:=i.tupAt d;cases v1;obtain⟨o,rv,n,_⟩:=eR q;show z8 b;obtain⟨y,f,rfl,l,b⟩:=b;show z8 b;obtain⟨w,e,rfl,j,b⟩:=b;show iD b;rw[l.int_eq,j.int_eq]at rv;obtain _|⟨⟨t,rfl⟩,_|⟨⟨u,rfl⟩,_|_⟩⟩:=rv
   exact⟨a,rfl,⟨a,t,u,rfl,n⟩,d⟩
theorem QpM{K:Ng}{g:Heap}{a:dO}{us:aX}(p:Paired (QoD K R g) a us):us.map (zV g)=a:=by
 induction p with
 |nil=>rfl
 |cons h t b=>obtain⟨_,_,q,_⟩:=h;rw[ND,b,QhQ q]
theorem Qj2{K:Ng}{g:Heap}:∀{us:aX},(∀u∈us,∃z,QoD K R g z u)->∃xs:bA,iI/\(∀R',jV->Rws K R' ((us.map (zV g)).map wz) xs)/\xs.length=us.length:=by
 intro us
 induction us with
 |nil=>
  intro _;exact⟨[],.nil,λR' _=>zB1,rfl⟩
 |cons u us j=>
  intro c;obtain⟨t,a,rfl,q,r⟩:=c u NF;obtain⟨xs,f,e,d⟩:=j (jT i l c);refine⟨aF a::xs,.cons rfl f,bG R' b,hY d⟩;rw[ND,ND,QhQ q];exact Rws.cons_iff.mpr ⟨_,_,rfl,sU b r,e R' b⟩
theorem WE:∀{b:cE d} {a:cE c},Paired F b a->∀y∈a,∃x,F x y
 |_,_,.nil,_,h=>tU h
 |_,_,wJ r,y,h=>by
  show kD h
  ·show u0 r
  ·exact WE t y h
theorem Qfk{Q:bJ}{ys:aI}{w:W}{h':MH}{xs:bA}{its:aX}(I:bW)(q:kG)(e:Qko ys h=d7 w h')(r:Rws X.K R ys xs)(rv:q9)
  (k:∀d v C,kT d->Rh X.K d h' C->Rw X.K d w v->∀u n,p' C n->cU v->Q u n) :
  its.length<64/\(∀v∈its,∃z,IsP s.heap z v)/\∀(D:Addr) (g:Heap) (tk c:Nat) (us:aX),us.Perm its->zU0->Sb.Ex s.heap g->zx1->g.get? D=zp8->Q (aD D) { s with heap:=g,toks:=tk }:=by
 unfold Qko at e;split at e
 ·rename_i x;obtain⟨t,b⟩:=x.choose_spec;generalize x.choose=T at t b e;cases e;subst t;have m:=Qmm I q r rv;have A:∀u∈its,∃z,QoD X.K R s.heap z u:=WE m;have a:its.length<64:=by rw[<-Ef m];exact b
  refine⟨a,λv N=>let⟨z,_,_,p,_⟩:=A v N;⟨z,p⟩,λD g tk c us p o M B P=>?_⟩;obtain⟨f,J,G,F⟩:=Qj2 (us:=us) (g:=s.heap) (K:=X.K) (R:=R) λu O=>A u (p.mem_iff.mp O);rw[Qca (l:=us.map (zV s.heap)) (by rw[<-QpM m];exact p.map _) (DE.mpr o)]at k;obtain⟨d,E,j,i⟩:=q.new (mo:=.lst ((us.map (zV s.heap)).map wz)) (o:=jG f) (I.hok.fresh B) λS L=>⟨_,rfl,G S L⟩
  exact k d _ _ E j i _ _ (I.laid (t':=tk) M B (show zq4 from⟨by rw[F,p.length_eq];exact Nw (NT a aE),us,c,J,P⟩)) rfl
 ·cases e
theorem Ge(_:gH)(B:fH):CallR X S9 (Fs X.K K8):=by
 intro pins s σ H U Z Q I r q;obtain⟨R,h,Y,w,h',f,a,e,k⟩:=q;show uZ K8 e
 ·show dJ t F E e;show q5 v g a;show zg3 x F;show lZ l r;obtain⟨kx,i,hx,G,T,lo,m,o,C,ep,N,M,L,J,b5,b6⟩:=WH I f x;show dW g;show aN y g;show lQ u l;have D:C.toList.map (·.key)=i.map λp=>Value.ref p.2.1:=by rw[J,ED];rfl
  refine(λz:_/\_/\_=>Sb.sorted_keysP (mN B) lo ⟨o,N,M,L⟩ z.1 z.2.1 z.2.2) ?_;rw[D];exact Qfk I f E (Gg G) (GQ m) λO v S j d b u s' P c=>⟨v,S,P,c,k4 O j d b⟩
 ·cases e
#print "-"
noncomputable def Qao(ws:aI)(h:MH):bF:=match ws with
 |[a]=>(Wb h a).map λb=>(.lst (zL0 b),h)
 |_=>nO
theorem Qkt(p:Pairs (JG prog w) es c):∀{kx:dM V},KV kx c->Vals (kx.map λq=>kV q.1) (es.map (·.key)):=by
 induction p with
 |nil=>intro kx h;cases h;exact .nil
 |cons e _ _ d=>
  intro kx h;obtain _|⟨g,f⟩:=h
  refine .cons ?_ (d f);show RelV (kV _) (DictEntry.key _);rw[g.1]
  rcases ZE e with⟨i,t,b,a⟩|⟨x,t,b,a⟩
  ·rw[b,a];exact qC
  ·rw[b,a];exact qC
section
variable{X:Cx}
theorem QbV(hc:fH):CallR X rZ (Fs X.K Qao):=by
 intro D s σ H xs us Q I r q;obtain⟨R,h,ws,w,F,C,x,e,k⟩:=q;unfold Qao at e;split at e
 ·show eD c e1 e2 e;show uT Z e1;show q5 v N x;show lZ M r;obtain⟨_,rfl,m,E,J⟩:=C.dicAt N Z;show lQ u M;obtain⟨z,lo,vs,rel,o,d,G,h1,h2,h3,_,h4,_⟩:=Qhn I.hok E;have t:=Qkt h4 rel;have f:d.size=m.length:=by have:=t.length;simpa using this.symm
  refine Ya5 (Qb8 (es:=d) (ep:=G) lo) uY ⟨o,h1,h2,h3⟩ (Bv f z) λF tk b c' S eL a=>?_
  have ha:b.toList=d.toList.map (·.key):=by
   show wF j;rw[Nq]
   by_cases i:j<d.size
   ·have g:j<b.size:=by rw[a.1];exact i
    obtain⟨e,l,B⟩:=N' a b g;rw[NH i]at l;cases l;rw[N1,NH g,B,N1,NH i];rfl
   ·have P:b.toList.length<=j:=by rw[NP,a.1];exact NZ.mp i
    have O:d.toList.length<=j:=by rw[NP];exact NZ.mp i
    rw[NW P,NW O];rfl
  rw[<-ha]at t;have Y:=Cy
  have U:Rws X.K R (zL0 c) (m.map λq=>kV q.1):=by
   have e:=QcR J;rw[show(zL0 c)=(c.map (·.1)).map kW by rw[ED];rfl,e,ED];clear e J E rel t f z
   induction m with
   |nil=>show tT
   |cons q m T=>exact Rws.cons Qny T
  obtain⟨R3,L,A,y⟩:=C.lstI (p:=s.heap.objs.size) Y U;refine⟨eZ s,_,I.laid (t':=tk) S c8 (zO8 F z t),rfl,k4 R3 L A y⟩
 ·cases e
#print "-"
#print "-Mi"
namespace Si
open Sb
section
variable{prog:Program}{w:World}{A:Around}{E:bJ}{s:Shared}
theorem Qoz{Q:bJ}(o:f5)
  (body:∀(n:Around),n.handled=nO->wpAny aT n (Builtin.«set.__init__» ⟨[eZ s,aF l],[]⟩) (λfin i=>fin=.done oA/\Q d8 i) E { s with heap:=s.heap.push gG }) :
  wpAny aT A (call B9 [aF l]) Q E s:=by
 show zM8 u j D C;refine Nh ⟨Ig _ cF,jn9⟩;rw[YaI (O2 "set" [fJ l] []) rfl];have B:=ET.notType;have z:=ET.canCreate;have y:=F.typeCall_set_1 (qW l)
 show xB
 refine DN (St.newL (qW l) (E:=E) (Q₁:=λobj d=>obj=eZ s/\d={ s with heap:=s.heap.push gG }) gD) (aM r d h);cases r with
 |error e=>exact h
 | ok t=>
  cases t with
  | ret obj=>
   show sB h;have hS:(s.heap.push gG).get? s.heap.objs.size=sO gG:=dF;have p:Shared.TypeIs { s with heap:=s.heap.push gG } d8 "set":=yL
   have x:=ET.init.lookup;have v:=ET.init.bind d8
   show xB
   refine DN (Yae (R:=wants (λr b=>r=.none/\Q d8 b) E) ET.init.plain F.entry_set_init (check_set_init_1 p (N8 (body _ (eC o)) (λfin i q=>?_) (fR q)))) (aM g b a)
   show jr9
   ·cases g with
    |error e=>exact a
    | ok f=>
     cases f with
     |ret r=>
      show tF q a
      show xB
     |_=>exact a.elim
  |_=>exact h.elim
theorem Qmk{Q:bJ}(M:f5)(L:Ax)(D:u.length=items.size)(J:∀(i:Nat) (v:Value),Ps u)(N:xH)
  (h:∀(h':Heap) (tk:Nat),Pp u->(∀b o,pE->fL)->Q d8 { s with heap:=h',toks:=tk }) :
  wpAny aT A (Builtin.«set.__init__» ⟨[eZ s,aF l],[]⟩) (λfin y=>fin=.done oA/\Q d8 y) E { s with heap:=s.heap.push gG }:=by
 have hS:(s.heap.push gG).get? s.heap.objs.size=sO gG:=dF;have Z:Shared.TypeIs { s with heap:=s.heap.push gG } d8 "set":=yL
 show Ts L;show Px H;have g:(s.heap.push gG).get? l=sO { cls:=i6,dict:=f,data:=TX,slots:=a }:=Nl _ j;have n:(s.heap.push gG).IsTuple l items:=S7
 have Y:=St.subT_set;have X:=St.subT_fro;have U:(Sw==SI)=false:=d5
 show Pe G;refine DP n Uf;show AJ m j;have d:(s.heap.push gG).objs.size=xX:=DK _ _;have C:l≠(s.heap.push gG).objs.size:=RI
 have I:s.heap.objs.size∉[(s.heap.push gG).objs.size,l]:=by
  show Pk
 refine QmV ((Walks.tuple (show rV by simp[M]) _ l C items).toS) s.heap.objs.size I zb2 u D J N B3 0 _ rfl gX ⟨⟨_,dF,rfl,rfl⟩,n.push _⟩ (U1 zh5) (aM y r F);show c7 h' O T t z y;have R:O=s.gens:=r.gens;show PV S T r P R;refine PK t F;show Pf r
theorem set_tupI{Q:bJ}(g:f5)(f:Ax)(a:d.length=items.size)(e:∀(i:Nat) (v:Value),Ps d)(j:xH)
  (h:∀(h':Heap) (tk:Nat),Pp d->(∀b o,pE->fL)->Q d8 { s with heap:=h',toks:=tk }) :
  wpAny aT A (call B9 [aF l]) Q E s:=Qoz g λ_ m=>Qmk m f a e j h
theorem set_lstI{Q:bJ}(g:f5)(f:AB)(a:d.length=items.size)(e:∀(i:Nat) (v:Value),Ps d)(j:xH)
  (h:∀(h':Heap) (tk:Nat),Pp d->(∀b o,pE->fL)->Q d8 { s with heap:=h',toks:=tk }) :
  wpAny aT A (call B9 [aF l]) Q E s:=Qoz g λ_ m=>Qqe m f a e j h
#print "-"
#print "-Si"
namespace Mi
open L2
noncomputable def sqW(h:MH):W->HV W
 |.tup ys=>sO ys
 |a=>lsW h a
noncomputable def XW(ws:aI)(h:MH):bF:=match ws with
 |[a]=>(sqW h a).bind λc=>(inL c).bind λb=>if zK8 then sO (.int (Sb.uq b).length,h)else nO
 |_=>nO
theorem Qnq(e:sqW h a=sO ys):a=.tup ys\/lsW h a=sO ys:=by
 cases a<;>first|exact k6 e|(cases e;exact wA)
section
variable{X:Cx}
theorem UY{p1 M p j:Pos}(S:fH)(hg:Gl X "len")(hm:X.mg "len"=nO)(G:Gl X "set")(F:X.mg "set"=nO)(he:zj2)(N:nB:=by rfl) :
  PM X (.Call (.Name "len" p1) [RK M j] [] p) (mFn XW (Qc me Ql)):=by
 show wY f B C;show U' z h' e1 C;obtain⟨⟨as,h2⟩,e2,e3⟩:=dH e1;show dD a T e4 e5 e2;obtain⟨⟨bs,h3⟩,e6,e7⟩:=dH e5;show kR e6 e7;refine EL (VS I hg hm NL (Fw ?_ (Q2 rfl) zL) aE aE);rw[Q2 (e:=RK M j) rfl];refine Dg (EL (VS I G F boot_set (Eb ?_ (Q2 N) zL) aE aE));rw[Q2 N];refine Dg (thn (he f s B H (CC v U R2 R T a) I ⟨R,z,h,a,T,rh,st,e4,Se U d y⟩) (aM u l C));obtain⟨v,Y,I1,L,R2,x2,d,y⟩:=C;refine E9 ?_;obtain⟨ys,J,e9⟩:=dH e3;show dJ r q m e9;split at m
 ·rename_i hz;cases m
  have fin:∀(g1:Heap) (c:Nat),Si.SetI X.prog X.w g1 l.heap.objs.size (Sb.uq r) (St.ledW X.w)->(∀b o,b<l.heap.objs.size->c9 l b=sO o->fU g1=sO o) ->
    wpAny bU X.A (call SQ [eZ l]) (EP X f B Q) X.xe { l with heap:=g1,toks:=c }:=λg1 c hS k1=>by
   obtain⟨o,es,ep,t,ho,hx,hd,ae,hb,hf,P,aa,ab,hn,O⟩:=hS;refine call_len_set (s:={ l with heap:=g1,toks:=c }) ho hx hd hf (by have:scanBound=4096:=rfl;rw[this]at hb;lia) ?_;rw[hn];have I2:Inv X f B Y { l with heap:=g1,toks:=c }:=I1.kept λb u e=>k1 b u gV e;exact⟨.int (Sb.uq r).length,Y,I2.tok _,f9,kk R2 _ _ x2 d zy1⟩
  have fits:∀{i:aX},i.length=r.length->i.toArray.size+1<scanBound:=λe=>by rw[Nr,e];show r.length+1<4096;lia
  rcases Qnq J with rfl|J
  ·show B5 Z D n d y;cases L;rw[Qck q]at n;obtain⟨i,rv,E,hl⟩:=I1.tuple D;show zu8 n g;exact Si.set_tupI (I1.ok.hd S) E (by rw[Nr,g]) (QcZ hS) (fits g) ji0
  ·show lW Z D n d y J;cases L;rw[Qck q]at n;obtain⟨i,rv,E,hl⟩:=I1.list D;show zu8 n g;exact Si.set_lstI (I1.ok.hd S) E.isList (by rw[Nr,g]) (QcZ hS) (fits g) ji0
 ·cases m
#print "-"
open PySem.W
section
variable{prog:Program}{w:World}{A:Around}{E:bJ}{s:Shared}{T:String}{r d:Addr}{n:Nat}{P:Nat->yY}{OK:vI}{Q:bJ}
theorem QjE(K:KdlSrc prog w T r d n P OK)(z:f5)(i:OK s.heap)(q:zc6)
  (h:∀(h':Heap) (tk:Nat) (a:eN),(∀b o,fL)->ItemsOf P a n->Q (.ref h'.objs.size) { s with heap:=h'.push { cls:=i6,data:=.seq a },toks:=tk }) :
  wpAny aT A (call yG [aF r]) Q E s:=by
 refine Lu (Q₁:=λobj c=>c.TypeIs obj "tuple"/\Q obj c) Le (PySem.F.typeCall_tuple_1 _) PySem.F.entry_object_init (IZ ?_) λobj c f=>?_
 ·show wpAny _ A.in1.in1 (do checkBuiltinCall "tuple.__new__" ⟨[i6,aF r],[]⟩;again (.builtin "tuple.__new__" ⟨[i6,aF r],[]⟩)) _ _ s;refine Na (Lw (PySem.F.newCall_tuple_1 _) (Nh ⟨Dk Ox _,Es PySem.F.entry_tuple_new ?_⟩));rw[Et Ox _];have p:=sub_tuple_self;have j:=init_tuple_lookup;have x:=madeHere_tuple;have m:=K.type s i;have u:=K.notTuple;have l:A.in1.in1.handled=nO:=z
  wp_walk using Dt m,kdu_collect K l i q
  intro h' tk a y g;show wpAny _ _ (Builtin.Tuple.tupleExact a.toList.toArray>>=λv=>ret v) _ _ _;unfold Builtin.Tuple.tupleExact;refine Na (Eo ?_ (by show a.toList.toArray.size<=sizeLine;simp only[D9];rw[g.1];exact q));refine Nh ?_;have e:a.toList.toArray=a:=aP
  rw[e];exact⟨⟨_,dF,rfl⟩,h h' tk a y g⟩
 ·exact⟨f.1,Ov obj _,object_init_meets Le.init.lookup Le.made aE prog w A.in1 _ c ⟨f.1,rfl,f.2⟩⟩
#print "-"
noncomputable def QoG(p:W×MH):bF:=(Wb p.2 p.1).map λa=>(.tup (a.map (·.2)),p.2)
noncomputable def QkE(me:ME):ME:=λa h=>(me a h).bind QoG
theorem Qkp{K:Ng}(d:yI):Rws K R (kvs.map (·.2)) (kx.map (·.2)):=Rws.of (d.rec .nil λr _ h=>.cons r.2 h)
theorem Qnl{kx:dM V}{a:SG}(d:KV kx a):Vals (kx.map (·.2)) (a.map (·.2)):=d.rec .nil λr _ h=>.cons r.2 h
section
variable{X:Cx}
theorem Qbm{p1 M C j:Pos}(hc:fH)(hg:Gl X "tuple")(hm:X.mg "tuple"=nO)(he:zj2)
  (t:attributeBase e "values" X.env (lA e)=BH e:=by rfl) (m:(M.endLine==j.line)=true:=by rfl) :
  PM X (.Call (.Name "tuple" p1) [zY4] [] C) (QkE me):=by
 show wY l G z0;show U' E h' e1 z0;show dD a U e2 e3 e1;show eD O e4 e5 e3;show uT Z e4;refine EL (VS I hg hm EB (Eb ?_ (Q2 rfl) zL) aE aE);rw[Q2 (e:=zY4) rfl];refine Dg (Os t m (thn (he l s G H (λv H2=>∃R2,kT R2/\Rh X.K R2 U H2/\Rw X.K R2 (aD n) v) I ⟨R,E,h,aF n,U,rh,st,e2,Se H2 g D⟩) (aM u y z1)));obtain⟨v,H1,I1,Y,R2,x2,g,D⟩:=z1;obtain⟨_,rfl,N,hx,dr⟩:=g.dicAt D Z;have T:tyW U "dict" (aD n)=true:=by simp only[tyW,Z];decide
 obtain⟨t1,t2⟩:=Qep I1 Y (QfI g D T);obtain rfl:u=Value.ref zh6:=Y;obtain⟨z,lo,B,rel,dd⟩:=Qhn I1.hok hx;refine⟨"dict","dict.values",Fv,Oh,PySem.F.type_dict_values,t1,t2,IF rfl (Yat ?_)⟩;refine Oe Oh dd.typeIs PySem.F.entry_dict_values (PySem.F.args_dict_values_1 _) (meets_dict_values Hh zh6 lo) ⟨⟨B,dd⟩,E9 ?_⟩;obtain⟨o,es,ep,q1,q2,q3,q4⟩:=dd.push { cls:=.type "dict_values",data:=.fields #[.ref zh6] };have hl:N.length=B.length:=rel.length;refine QjE (s:={ y with heap:=y.heap.push { cls:=.type "dict_values",data:=.fields #[.ref zh6] } }) (kdl_values (knd:=JG X.prog X.w) (r:=y.heap.objs.size) (d:=R2.ρ n) (kvs:=B) (ep:=ep)) (I1.ok.hd hc) ⟨⟨_,dF,rfl,rfl⟩,o,es,q1,q2,q3,q4⟩ (hl▸z) λA tk f kp S=>?_;have P:∀b o,c9 y b=sO o->fU A=sO o:=λb o q=>kp b o (Nl _ q);have I2:zx3 l G H1 y A:=I1.kept (t':=tk) P
 have ea:f.toList=B.map (·.2):=by
  show wF i;rw[Nq]
  by_cases c:i<B.length
  ·have hi:i<f.size:=by rw[S.1];exact c
   have e6:f[i]?=sO f[i]:=NH hi;obtain⟨k,hk⟩:=S.2 i _ e6;rw[N1,e6,hk];rfl
  ·rw[NW (by rw[NP,S.1];exact NZ.mp c),NW (hP c)];rfl
 have I3:Inv X l G (upd H1 A.objs.size (.tup (N.map (·.2)))) { y with heap:=A.push { cls:=i6,data:=.seq f },toks:=tk }:=
  I2.laid (t':=tk) (HR o) c8 (show ObjOk X.prog X.w _ _ _ (.tup (N.map (·.2)))from⟨zJ5 z,f.toList,by rw[ea];exact Qnl rel,by rw[D9];exact YaD _ _⟩)
 obtain⟨R3,x3,L,J⟩:=g.tup (p:=A.objs.size) (I2.hok.fresh c8) (Qkp dr);exact⟨.ref A.objs.size,_,I3,rfl,kk R3 _ _ (dX x2 x3) L J⟩
@[simp]theorem QrM:QkE me σ h=@ob _ _ QoG (me σ h):=aV
#print "-"
noncomputable def UF(ws:aI)(h:MH):bF:=match ws with
 |[a]=>(Wb h a).map λb=>(eX,h++[.dic b])
 |_=>nO
noncomputable def QaE(ws:aI)(h:MH):bF:=match ws with
 |[a]=>(lsW h a).bind λc=>(inL c).bind λb=>if b.length<64 then sO (.lst ((QiX b).map .int),h)else nO
 |_=>nO
section
variable{X:Cx}
theorem Qb3:CallR X uQ (Fs X.K UF):=by
 intro j s J H L N Q I r q;obtain⟨R,h,M,w,S,i,c,e,k⟩:=q;unfold UF at e;split at e
 ·show eD g E D e;show uT C E;show i3 c v t a b;show iD b;show lZ x r;obtain⟨_,rfl,y,A,F⟩:=i.dicAt a C;cases x;refine Qhm I (Rd.of A) (eE p O B G);obtain⟨R2,l,f,d⟩:=i.new (mo:=.dic g) (o:=.dK y) B λT m=>⟨_,rfl,Paired.mapP F (P' m)⟩
  exact⟨aF p,_,G,rfl,k4 R2 l f d⟩
 ·cases e
theorem Qb0(hc:fH):CallR X S9 (Fs X.K QaE):=by
 intro i s M H F us Q I r q;obtain⟨R,h,O,w,h',G,z,e,k⟩:=q;unfold QaE at e;split at e
 ·obtain⟨ys,y,e2⟩:=dH e;obtain⟨ss,e3,E⟩:=dH e2;split at E
  ·rename_i hz;cases E;show q5 v U z;show lW F Y J G U y;show lZ T r;show zH8 T;rw[Qck e3]at J;obtain⟨a,rv,Z,hl⟩:=f0 Y;show zu8 J t;obtain⟨o,ho,C,n,hd⟩:=Z.isList;have l:zd4:=by rw[t];exact hz
   have f:zy9:=by rw[DL];exact Nw (NT l aE)
   show zl7;refine Na (m:=zs2) (Nh (Na (wpAny_collect_seq ad fA ho C hd (λx k1=>?_) (by rw[Nr];exact f))));rw[F4];refine Na (FY ?_ f);have g:(x.push (pC a)).get? x.objs.size=sO (pC a):=dF;refine Na (N0 (Ej O3 (gN g) OH (list_sort_tree g hS l λd j a1 L a3=>Bb) (O4 _)));obtain⟨c,D⟩:=sortedHeap_at (out:=d) g;have I1:Az i M x:=zc5 I s k1;have eq:=Qca L a3;obtain⟨v1,P⟩:=Qeh (K:=X.K) (R:=R) a1;obtain⟨R3,N,B,A⟩:=G.lstI (ws:=j.map .int) (xs:=j.map V.int) (p:=x.objs.size) (I1.hok.fresh c8) P;rw[eq]at k;refine Nh ⟨_,rfl,.ref x.objs.size,_,I1.laid (t':=s.toks) (jZ b o e) c8 (show zq4 from⟨?_,d.toList,c,v1,nA D9 D⟩),rfl,k4 R3 N B A⟩
   ·have y:=Nl (pC a) e;rw[sortedHeap_old (NB gV) (NC y)];exact y
   ·rw[Ny,L.length_eq,<-t];exact f
  ·cases E
 ·cases e
#print "-"
noncomputable def QmT:SM:=zJ
theorem Qg5{X:Cx}{st:Stmt}:PMS X st QmT:=λ_ _ _ _ _ _ q=>by
 obtain⟨R,a,h,r,b,s,e,k⟩:=q;cases e
section
variable{p:aX->Prop}
theorem ar0(h:p [])(us:aX)(e:us.length=0):p us:=List.eq_nil_of_length_eq_zero e▸h
theorem arS{n:Nat}(h:∀a us,us.length=n->p (a::us)):∀us:aX,us.length=n+1->p us
 |a::us,e=>h a us (Nat.succ.inj e)
theorem ar1(h:∀a,p [a]):∀us:aX,us.length=1->p us:=arS λa=>ar0 (h a)
theorem ar2(h:∀a b,p [a,b]):∀us:aX,us.length=2->p us:=arS λa=>ar1 (h a)
theorem ar3(h:∀a b c,p [a,b,c]):∀us:aX,us.length=3->p us:=arS λa=>ar2 (h a)
theorem ar4(h:∀a b c d,p [a,b,c,d]):∀us:aX,us.length=4->p us:=arS λa=>ar3 (h a)
theorem ar5(h:∀a b c d e,p [a,b,c,d,e]):∀us:aX,us.length=5->p us:=arS λa=>ar4 (h a)
theorem ar6(h:∀a b c d e f,p [a,b,c,d,e,f]):∀us:aX,us.length=6->p us:=arS λa=>ar5 (h a)
#print "-"
#print "-Mi"
namespace My
open L2 Mi
noncomputable def top(i:Nat):Stmt:=Oo.main.body.getD i (.Pass ⟨0,0,0,0⟩)
noncomputable abbrev Z7:W:=.int 8
section
variable{P:Program}{w:World}{K:Ng}{mg:eK}{base:Heap}
noncomputable abbrev Vv:Stmt:=top 44
theorem sc__law_take:FnScope ["feed","many","found"] jO (Qu Vv):=cV
noncomputable def VU:FM:=QM 1
  (QG (Ja (Qy (Qn wGt (Qn wIx aG aY) aY)) (QG (Zi 2 (Qn QgA (Qn wIx aG aY) aL))
  (QG (Qf6 aG aY (Qn QlD (Qn wIx aG aY) aL))
  (Zw aR))) QR)
  (QG (Qf6 aG aK (Qn QgA (Qn JE (Qn Yo (Qn wIx aG aK) (mC (.int 69621))) (mC (.int 12345))) zu0))
  (Zw (Qn QgA (Qn QlD (Qn wIx aG aK) (mC (.int 8191))) aL))))
set_option maxHeartbeats 4000000 in
theorem GE(d:DefAt K mg "_law_take" Vv jO):Cal P w K mg base 1 "_law_take" jO VU:=by
 refine QK (k:=0) (more:=1) d sc__law_take rfl λf c A a s H E b=>?_;show cY e b;show cW;show kY;show aJ;show jS;show bC;exact sc__law_take.nd;show bB;show B6;show aJ;show o9;show b9
 show fX;show uE;show cO;refine QN Qfs Qk ?_ ?_;show aJ;show o9;exact dG;show f3;show bD;show Bm;show fX;show uE;show cO;show B6;show cM;refine zH9;show aJ;show jS;show jS;exact dG;show f3;show bD;show B6;refine QN Qfs Qk ?_ ?_;show aJ;show jS;exact Qb _
noncomputable def Qm:FM:=box frN VU
theorem GS(d:DefAt K mg "_law_take" Vv jO):iT:=(GE d).box frN
noncomputable abbrev Z2:Stmt:=top 45
theorem sc__law_names:FnScope zl0 jO (Qu Z2):=cV
noncomputable def Vo:FM:=QM 7
  (QG (Zi 2 (mC (.str "abcdefghijklmnopqrstuvwxyz")))
  (QG (Zi 3 (Qn wIx aR (Qv 2 Qm (Qc aG (Qc zF3 Ql)))))
  (QG (Ja (Qy (Qn wEq (Qv 2 Qm (Qc aG (Qc l5 Ql))) aY)) (Zw (Z4 V8 (YG (Qc aL Ql)) BR iN YF (Qn Yo aL (Qn JE aG aK)))) QR)
  (QG (Zi 4 (Qv 2 Qm (Qc aG (Qc zF3 Ql))))
  (QG (Zi 5 (Qn wIx (mFn V4 (Qc aK (Qc l5 (Qc (mC (.int 5)) (Qc TD (Qc (mC (.int 9)) (Qc (mC (.int 11)) Ql))))))) (Qv 2 Qm (Qc aG (Qc sD Ql)))))
  (QG (Zi 6 (Qn wIx (mFn V4 (Qc aK (Qc l5 (Qc sE (Qc (mC (.int 5)) (Qc sD (Qc TD (Qc zI0 (Qc aK Ql))))))))) (Qv 2 Qm (Qc aG (Qc zI0 Ql)))))
  (QG (Zi 7 (Qv 2 Qm (Qc aG (Qc dB Ql))))
  (QG (Zi 8 (Qn Yo aW (Qn Qag (Qn Qag dB aK) jE)))
  (Zw (Z4 V8 (YG (Qc aL Ql)) jc5 iN YF (Qn JE (Qn JE (Qn Yo aR aW) (Qn wIx a' (Qn QgA (Qn JE c5 (Qn Yo dB aG)) zF3))) aL)))))))))))
set_option maxHeartbeats 4000000 in
theorem Uz(d:DefAt K mg "_law_names" Z2 jO)(e:f4)(a:iT):Cal P w K mg base 2 "_law_names" jO Vo:=by
 refine QK (k:=1) (more:=7) d sc__law_names rfl λf l A g s H E b=>?_;show cY i b;show bC;show Aj;exact QI;show b9
 show bC;show Aj;show aJ;show bE b;show aA;exact Qh;show aU;show b9
 show cW;show cZ i;show bE b;show aA;exact Qh;show aU;exact Qh;show bD;refine Xo J6 ?_ (WV (ks:=["filler"]) (Nb:=["k","filler"]) (cp:=BR) (N:=zl0) (xs:=(Qu Z2)) rfl rfl cF rfl cF (Cp c) rfl rfl rfl cF) ?_ dZ dZ;exact rfl;show pN;show c6;show aA;show eS;exact rfl;exact QV nT rfl cG;show RJ;show cM;show cO;exact Qz;show bC;show Aj;show bE b;show aA;exact Qh;show aU;show b9
 show bC;show Aj;show cX;show dV;show aA;exact Qh;show aA;exact Qh;show aA;exact Qh;show aA;exact Qh;show aA;exact Qh;show aA;show fN;show bE b;show aA;exact Qh;show aU;show b9
 show bC;exact sc__law_names.nd;show bB;show cX;show dV;show aA;exact Qh;show aA;exact Qh;show aA;exact Qh;show aA;exact Qh;show aA;exact Qh;show aA;exact Qh;show aA;exact Qh;show aA;show fN;show bE b;show aA;exact Qh;show aU;show b9
 show bC;show Aj;show bE b;show aA;exact Qb _;show aU;show b9
 show bC;show Aj;show RJ;show o3;show o3;show cO;exact Qb _;show b9
 show bD;refine Xo J6 ?_ (WV (ks:=["step","place","letters","first","filler","back"]) (Nb:=["k","back","filler","place","letters","first","step"]) (cp:=jc5) (N:=zl0) (xs:=(Qu Z2)) rfl rfl cF rfl cF (by show zs3 c;rcases c with rfl|rfl|rfl|rfl|rfl|rfl<;>rfl) rfl rfl rfl cF) ?_ dZ dZ;exact rfl;show pN;show c6;show aA;show eS;exact rfl;exact QV nT rfl cG;show cM;show cM;show RJ;exact Qb _;show aJ;show B6;show cM;exact Qb _;show RJ;show cO;exact Qb _
noncomputable def Zy:FM:=box frN Vo
theorem UC(d:DefAt K mg "_law_names" Z2 jO)(b:f4)(a:iT):Cal P w K mg base 2 "_law_names" jO Zy:=(Uz d b a).box frN
noncomputable abbrev Jm:Stmt:=top 47
theorem Wz:FnScope pG pG (Qu Jm):=cV
noncomputable def JO:FM:=QM 0
  (Ja (Qy (Qn wEq (Qn wIx aL (mUn Yt aK)) xM)) (QG (Vi (mMt "list" ZD aG (Qc (mFn Zs (Qc AS Ql)) Ql)))
  (Qf6 aL (mUn Yt aK) AS)) (QG (Vi (mMt "list" ZD aG (Qc (mFn Zs (Qc AO Ql)) Ql)))
  (Vi (mMt "list" QlP aL Ql))))
set_option maxHeartbeats 4000000 in
theorem Y1(d:DefAt K mg "_law_step_on" Jm pG):Cal P w K mg base 1 "_law_step_on" pG JO:=by
 refine QK (k:=0) (more:=0) d Wz rfl λf e A a s H E c=>?_;show cY b c;show iC;show cZ b;show aJ;show gI;exact QI;show fX;show k7;show aA;show bO;show aA;exact QI;show oD;show fE;show uE;exact Qb _;show gI;exact QI;exact dG;show f3;show fX;show k7;show aA;show bO;show aA;exact QI;show oD;show fE;show wV;show Rp
noncomputable def QW:FM:=box frN JO
theorem YU(d:DefAt K mg "_law_step_on" Jm pG):Cal P w K mg base 1 "_law_step_on" pG QW:=(Y1 d).box frN
noncomputable abbrev J2:Stmt:=top 46
theorem sc__law_plain:FnScope ["feed","boxes","words","way","x","y","z"] rN (Qu J2):=cV
noncomputable def Vn:FM:=QM 4
  (QG (Zi 3 (Qv 2 Qm (Qc aG (Qc (mC (.int 10)) Ql))))
  (QG (Zi 4 (Qn wIx aL (Qv 2 Qm (Qc aG (Qc (mFn JB (Qc aL Ql)) Ql)))))
  (QG (Zi 5 (Qn wIx aL (Qv 2 Qm (Qc aG (Qc (mFn JB (Qc aL Ql)) Ql)))))
  (QG (Ja (Qy (Qn wLt aW sE)) (QG (Zi 6 (Qn wIx aL (Qv 2 Qm (Qc aG (Qc (mFn JB (Qc aL Ql)) Ql)))))
  (Zw (mFn Zs (Qc AK (Qc a' (Qc (Qn wIx aR (Qv 2 Qm (Qc aG (Qc (mFn JB (Qc aR Ql)) Ql)))) (Qc c5 (Qc dB Ql)))))))) QR)
  (Zw (Qn wIx (mFn V4 (Qc (mFn Zs (Qc (mC (.str "first")) (Qc a' (Qc c5 Ql)))) (Qc (mFn Zs (Qc (mC (.str "second")) (Qc a' (Qc c5 Ql)))) (Qc (mFn Zs (Qc (mC (.str "same")) (Qc a' (Qc c5 Ql)))) (Qc (mFn Zs (Qc (mC (.str "none")) (Qc a' Ql))) (Qc (mFn Zs (Qc (mC (.str "tell")) (Qc c5 Ql))) (Qc (mFn Zs (Qc (mC (.str "tell")) (Qc a' Ql))) Ql))))))) (Qn Qag aW sE)))))))
set_option maxHeartbeats 4000000 in
theorem Ui(d:DefAt K mg "_law_plain" J2 rN)(e:cR)(a:iT):Cal P w K mg base 2 "_law_plain" rN Vn:=by
 refine QK (k:=1) (more:=4) d sc__law_plain rfl λf g A c s H E b=>?_;show cY h b;show bC;show TF;show bB;show bE b;show aA;exact Qh;show aU;show b9
 show bC;show TF;show bB;show aJ;show bE b;show aA;show dC;show aA;show cA;show aU;show b9
 show bC;show TF;show bB;show aJ;show bE b;show aA;show dC;show aA;show cA;show aU;show b9
 show cW;refine Ho;show cO;show bC;show TF;show bB;show aJ;show bE b;show aA;show dC;show aA;show cA;show aU;show b9
 show bD;show bO;show aA;exact QI;show aA;exact Qb _;show aA;show aJ;show bE b;show aA;show dC;show aA;show cA;show aU;show aA;exact Qb _;show aA;show eS;exact Qz;show bD;show cX;show dV;show aA;show bO;show aA;exact QI;show aA;exact Qb _;show aA;show eS;show aA;show bO;show aA;exact QI;show aA;exact Qb _;show aA;show eS;show aA;show bO;show aA;exact QI;show aA;exact Qb _;show aA;show eS;show aA;show bO;show aA;exact QI;show aA;show eS;show aA;show bO;show aA;exact QI;show aA;show eS;show aA;show bO;show aA;exact QI;show aA;show eS;exact Qe;show o3;show cO
noncomputable def Jz:FM:=box frN Vn
theorem Uj(d:DefAt K mg "_law_plain" J2 rN)(b:cR)(a:iT):Cal P w K mg base 2 "_law_plain" rN Jz:=(Ui d b a).box frN
noncomputable abbrev Vr:Stmt:=top 48
theorem sc__law_part:FnScope ["feed","size","menus","later","opens","dos","lines","opened","k","way"] rF (Qu Vr):=cV
noncomputable abbrev Vp:SM:=(QG (Zi 9 (Qv 2 Qm (Qc aG (Qc (mC (.int 14)) Ql))))
  (Ja (Vy (Qy (Qn wLt e' l5)) (Qy (Qn wGt a' aY))) (QG (Vi (mMt "list" ZD jE (Qc (Qn wIx (mFn V4 (Qc xM (Qc xR (Qc xM Ql)))) e') Ql)))
  (QG (Vi (mMt "list" ZD dB (Qc (mFn Zs (Qc (Qn wIx jE (mUn Yt aK)) Ql)) Ql)))
  (Zi 4 (Qn Qag a' aK)))) (Ja (Vy (Qy (Qn wLt e' sD)) (Qy (Qn wGt (mFn JB kE) aY))) (Vi (Qv 2 QW (Qc dB kE))) (Ja (Vy (Qy (Qn IO e' (mFn V4 (Qc sD (Qc TD Ql))))) (Vy (Qy (Qn wGt c5 aY)) (Qy (Qn wGt (mFn JB (Qc aW Ql)) aY)))) (QG (Vi (mMt "list" ZD dB (Qc (mFn Zs (Qc zB3 (Qc (Qn wIx aW (Qv 2 Qm (Qc aG (Qc (mFn JB (Qc aW Ql)) Ql)))) Ql))) Ql)))
  (Zi 5 (Qn Qag c5 aK))) (Vi (mMt "list" ZD dB (Qc (Qv 3 Jz (Qc aG (Qc (Qn wIx aR aY) (Qc (Qn wIx aR aK) Ql)))) Ql)))))))
noncomputable abbrev KN:SM:=(Vi (Qv 2 QW (Qc dB kE)))
noncomputable def XY:FM:=QM 4
  (QG (Zi 6 oB)
  (QG (Zi 7 oB)
  (QG (Ve (YG (Qc aL Ql)) (ZP 8)
  Vp)
  (QG (Zd (Qy (Qn wGt (mFn JB kE) aY)) KN 1000000)
  (Zw (mFn XA (Qc dB Ql)))))))
set_option maxHeartbeats 4000000 in
theorem Gw(d:DefAt K mg "_law_part" Vr rF)(j:cR)(h:f4)(g:jP)(b:Cal P w K mg base 2 "_law_plain" rN Jz)(a:Cal P w K mg base 1 "_law_step_on" pG QW)(c:iT):Cal P w K mg base 3 "_law_part" rF XY:=by
 refine QK (k:=2) (more:=4) d sc__law_part rfl λf m A i s H E e=>?_;show cY l e;show bC;show HA;show bB;show o5;show b9
 show bC;show HA;show bB;show o5;show b9
 show iR;show pN;show c6;show aA;show eS;exact rfl;exact QV sc__law_part.nd rfl cG;show bC;show HA;show bB;show bE e;show aA;exact Qh;show aU;show b9
 show iC;show kU;refine Ho;show cO;show lI;show kY;show cO;show fX;show k7;show aA;show cX;show dV;show aA;exact QI;show aA;exact QI;show aA;exact QI;exact Qe;show eS;show fX;show k7;show aA;show bO;show aA;show aJ;show gI;show oD;show xD;show HA;show bB;show o3;show cO;show b9
 show iC;show kU;refine Ho;show cO;show lI;show kY;show dC;show aA;show cA;exact Qh;show fE;show wV;show bE e;show aA;exact Qb _;show aU;show iC;show kU;refine Qr (Qgw ?_) Qk ?_ ?_;show vW l;show dV;show aA;exact Qh;show aA;show fN;refine Jd ?_ ?_;show kY;show cO;show lI;show kY;show dC;show aA;show cA;exact Qh;show fX;show k7;show aA;show bO;show aA;exact QI;show aA;show aJ;show bE e;show aA;show dC;show aA;show cA;show aU;show oD;show xD;show HA;show bB;show o3;show cO;show b9
 show fE;show k7;show aA;show bE e;show aA;show aJ;exact Qh;show aA;show aJ;exact Qh;show aU;exact Qe;exact dG;show fX;refine Yc 1000000 ?_ ?_ ?_;exact NY;show kY;show dC;show aA;show cA;exact Qh;show fE;show wV;show bE e;show aA;exact Qb _;show aU;show bD;show rG;show c6;show aA;show cA
noncomputable def Jl:FM:=box frN XY
theorem Gm(d:DefAt K mg "_law_part" Vr rF)(g:cR)(f:f4)(e:jP)(b:Cal P w K mg base 2 "_law_plain" rN Jz)(a:Cal P w K mg base 1 "_law_step_on" pG QW)(c:iT):Cal P w K mg base 3 "_law_part" rF Jl:=(Gw d g f e b a c).box frN
noncomputable abbrev Je:Stmt:=top 49
theorem sc__law_program:FnScope ["feed","bounds","menus","names","size","found","k"] uL (Qu Je):=cV
noncomputable abbrev XG:SM:=(Vi (mMt "list" ZD c5 (Qc (mFn Zs (Qc (Qn wIx aW dB) (Qc (Qv 6 Jl (Qc aG (Qc (Qv 2 Qm (Qc aG (Qc sE Ql))) (Qc aR (Qc (mSl aW (Qay (Qn JE dB aK)) Qa1) (Qc aK (Qc aK Ql))))))) Ql))) Ql)))
noncomputable def VM:FM:=QM 5
  (QG (Zi 2 (mFn Zs (Qc (Qv 2 Zy (Qc aG (Qc (Qn JE aK (Qv 2 Qm (Qc aG (Qc (Qn wIx aL aY) Ql)))) Ql))) (Qc (Qv 2 Zy (Qc aG (Qc (Qn JE aK (Qv 2 Qm (Qc aG (Qc (Qn wIx aL aK) Ql)))) Ql))) Ql))))
  (QG (Zi 3 (Qv 2 Zy (Qc aG (Qc (Qn JE aK (Qv 2 Qm (Qc aG (Qc (Qn wIx aL dA) Ql)))) Ql))))
  (QG (Zi 4 (Qn Qag (Qn wIx aL l5) (Qv 2 Qm (Qc aG (Qc l5 Ql)))))
  (QG (Ja (Qy (Qn wEq (Qv 2 Qm (Qc aG (Qc sE Ql))) aY)) (Zi 4 (Qv 2 Qm (Qc aG (Qc (Qn JE a' aK) Ql)))) QR)
  (QG (Zi 5 (mFn Wr (Qc (mFn Zs (Qc (Qn wIx aW aY) (Qc (Qv 6 Jl (Qc aG (Qc a' (Qc aR (Qc (mSl aW (Qay aK) Qa1) (Qc dA (Qc dA Ql))))))) Ql))) Ql)))
  (QG (Ve (Qhk (Qc aK (Qc (mFn JB (Qc aW Ql)) Ql))) A0
  XG)
  (Zw (mFn XA (Qc c5 Ql)))))))))
set_option maxHeartbeats 4000000 in
theorem Y5(d:DefAt K mg "_law_program" Je uL)(j:cR)(h:f4)(g:jP)(b:Cal P w K mg base 2 "_law_names" jO Zy)(e:Cal P w K mg base 3 "_law_part" rF Jl)(c:iT):Cal P w K mg base 4 "_law_program" uL VM:=by
 refine QK (k:=3) (more:=5) d sc__law_program rfl λf m A i s H E a=>?_;show cY l a;show bC;show Hc;show bB;show bO;show aA;show bE a;show aA;show cM;exact Qh;show bE a;show aA;show aJ;exact Qh;show aU;show aU;show aA;show bE a;show aA;show cM;exact Qh;show bE a;show aA;show aJ;exact Qh;show aU;show aU;exact Qe;show b9
 show bC;show Hc;show bB;show bE a;show aA;show cM;exact Qh;show bE a;show aA;show aJ;exact Qh;show aU;show aU;show b9
 show bC;show Hc;show bB;show o3;show aJ;exact Qh;show bE a;show aA;exact Qh;show aU;show b9
 show cW;show cZ l;show bE a;show aA;exact Qh;show aU;exact Qh;show xD;show Hc;show bB;show bE a;show aA;show cM;show cO;show aU;show b9
 exact Qz;show bC;show Hc;show bB;show wX;show aA;show bO;show aA;show aJ;exact Qh;show aA;show bE a;show aA;exact Qb _;show aA;exact Qb _;show aA;show Ay;refine KC ?_;exact Qh;exact Ku;show aA;exact Qh;show aA;exact Qh;show aU;show oD;show b9
 show iR;refine QiU ?_ ?_ ?_ ?_ ?_;show c6;show aA;exact Qh;show aA;show dC;show aA;show cA;exact Qe;show f3;exact QV sc__law_program.nd rfl cG;show fE;show k7;show aA;show bO;show aA;show aJ;exact Qb _;show aA;show bE a;show aA;show bE a;show aA;exact Qh;show aU;show aA;exact Qb _;show aA;show Ay;refine KC ?_;show cM;show cO;exact Ku;show aA;exact Qh;show aA;exact Qh;show aU;show oD;exact dG;show bD;show rG;show c6;show aA;show cA
noncomputable def Jh:FM:=box frN VM
theorem Y4(d:DefAt K mg "_law_program" Je uL)(g:cR)(f:f4)(e:jP)(a:Cal P w K mg base 2 "_law_names" jO Zy)(c:Cal P w K mg base 3 "_law_part" rF Jl)(b:iT):Cal P w K mg base 4 "_law_program" uL Jh:=(Y5 d g f e a c b).box frN
noncomputable abbrev Vx:Stmt:=top 43
theorem sc__law_feed:FnScope ["script","k","cell","digits"] uR (Qu Vx):=cV
noncomputable def Vc:FM:=QM 2
  (QG (Zi 2 aY)
  (QG (Ja (Qy (Qn wLt aL (mFn JB (Qc aG Ql)))) (Zi 2 (Qn wIx aG aL)) QR)
  (QG (Zi 3 aY)
  (QG (Ja (Qy (Qn wGe aR zX4)) (Zi 3 (Qn Qag aR zX4)) QR)
  (Zw (mFn Wr (Qc aW (Qc (Qn JE (Qn QgA (Qn Yo (Qn QgA aR zu0) (mC (.int 48271))) zu0) aL) Ql))))))))
set_option maxHeartbeats 4000000 in
theorem GM(d:DefAt K mg "_law_feed" Vx uR)(b:cR):Cal P w K mg base 1 "_law_feed" uR Vc:=by
 refine QK (k:=0) (more:=2) d sc__law_feed rfl λf e A a s H E c=>?_;show cY g c;show bC;show WF;show bB;exact Qh;show b9
 show cW;refine Ho;exact Qb _;show dC;show aA;show cA;show xD;show WF;show bB;show aJ;exact Qb _;show b9
 exact Qz;show bC;show WF;show bB;exact Qh;show b9
 show cW;refine Qr Qof Qk ?_ ?_;exact Qb _;refine QN QeZ Qk ?_ ?_;show jS;show xD;show WF;show bB;show o3;exact Qb _;refine QN QeZ Qk ?_ ?_;show jS;show b9
 exact Qz;show bD;show wX;show aA;exact Qb _;show aA;show cM;show B6;refine zH9;show B6;show cO;show jS;show eS
noncomputable def ZS:FM:=box frR Vc
theorem Gi(d:DefAt K mg "_law_feed" Vx uR)(a:cR):Cal P w K mg base 1 "_law_feed" uR ZS:=(GM d a).box frR
noncomputable abbrev J7:Stmt:=top 53
theorem sc__law_words:FnScope ["program","found","name","lines"] cB (Qu J7):=cV
noncomputable abbrev X9:SM:=(Vi (mMt "list" WT aL (Qc (Z4 V8 (Zb aW) [nO] iN (Qy (Qn wEq (Qn wIx aG aY) AK)) (Qn wIx aG dA)) Ql)))
noncomputable def Xq:FM:=QM 3
  (QG (Zi 1 oB)
  (QG (Ve (Zb aG) (ZQ [2,3])
  X9)
  (Zw (mFn Ka (Qc aL Ql)))))
set_option maxHeartbeats 4000000 in
theorem Ut(d:DefAt K mg "_law_words" J7 cB)(c:Br)(a:yM):Cal P w K mg base 1 "_law_words" cB Xq:=by
 refine QK (k:=0) (more:=3) d sc__law_words rfl λf h A b s H E g=>?_;show cY e g;show bC;exact sc__law_words.nd;show bB;show o5;show b9
 show iR;show kC;show uB;refine QE sc__law_words.nd rfl cG ?_ ?_;refine QE sc__law_words.nd rfl cG ?_ ?_;exact Jv
 show eI
 show eI
 show f3;show fE;show ja1;show aA;refine Yb J6 ?_ (VH (Nb:=jA) (cp:=[nO]) rfl cF cF rfl rfl) ?_ dZ dZ dZ;exact rfl;show kC;exact QV nT rfl cG;show cZ e;show aJ;show oC;show aJ;show fN;exact dG;show bD;refine Qbl ?_ ?_ ?_ ?_ ?_ ?_ ?_;exact rfl;show c6;show c6;show HP
noncomputable def ZY:FM:=box frN Xq
theorem Ue(d:DefAt K mg "_law_words" J7 cB)(b:Br)(a:yM):Cal P w K mg base 1 "_law_words" cB ZY:=(Ut d b a).box frN
noncomputable abbrev Z6:Stmt:=top 54
theorem sc__law_manner:FnScope zN5 uH (Qu Z6):=cV
noncomputable abbrev VO:SM:=(Vi (mMt "list" WT aR (Qc (Z4 V8 (YG (Qc (Qn JE (mFn JB (Qc (Qn wIx a' aK) Ql)) aK) Ql)) BR iN YF (mFn Zs (Qc aL (Qc aG Ql)))) Ql)))
noncomputable abbrev JN:SM:=(Ja (Qbp (Vy (Qy (Qn wEq dB aY)) (Qy (Qn wEq r0 jE))) (Vy (Qy (Qn wGt dB aK)) (Qy (Qn wEq (Qv 2 Qm (Qc aL (Qc (Qn JE dA dB) Ql))) aY)))) (Vi (mMt "list" ZD j0 (Qc (mFn Zs (Qc e' (Qc r0 Ql))) Ql))) QR)
noncomputable abbrev X0:SM:=(Ve (Zb aR) Pc
  JN)
noncomputable def Xf:FM:=QM 9
  (QG (Zi 2 oB)
  (QG (Ve (UU (Qc aG Ql)) (ZQ [3,4])
  VO)
  (QG (Zi 5 (Qv 1 ZY (Qc aG Ql)))
  (QG (Zi 6 (Qv 2 Qm (Qc aL (Qc sD Ql))))
  (QG (Zi 7 (Qn wIx aR (Qv 2 Qm (Qc aL (Qc (mFn JB (Qc aR Ql)) Ql)))))
  (QG (Zi 8 oB)
  (QG (Ve (Zb c5) (ZP 9)
  X0)
  (Zw j0))))))))
set_option maxHeartbeats 4000000 in
theorem WA(d:DefAt K mg "_law_manner" Z6 uH)(c:nY)(l:cR)(g:f4)(b:iT)(a:Cal P w K mg base 1 "_law_words" cB ZY):Cal P w K mg base 2 "_law_manner" uH Xf:=by
 refine QK (k:=1) (more:=9) d sc__law_manner rfl λf n A h s H E e=>?_;show cY j e;show bC;show Hi;show bB;show o5;show b9
 show iR;refine Qc8 ?_ ?_ ?_ ?_;show c6;show aA;show eS;exact rfl;show uB;refine QE (i:=3) (x:="number") sc__law_manner.nd rfl Id ?_ ?_;refine QE sc__law_manner.nd rfl cG ?_ ?_;exact Jv
 show eI
 show eI
 show f3;show fE;show ja1;show aA;refine Xo J6 ?_ (WV (ks:=["number"]) (Nb:=["gap","number"]) (cp:=BR) (N:=zN5) (xs:=(Qu Z6)) rfl rfl cF rfl cF (Cp m) rfl rfl rfl cF) ?_ dZ dZ;exact rfl;show pN;show c6;show aA;show cM;show dC;show aA;show aJ;exact Qh;show jJ;show fN;exact rfl;exact QV nT rfl cG;show bO;show aA;exact Qb _;show aA;show eS;exact Qe;exact dG;show bC;show Hi;show bB;show bE e;show aU;show b9
 show bC;show Hi;show bB;show bE e;show aA;exact Qh;show aU;show b9
 show bC;show Hi;show bB;show aJ;show bE e;show aA;show dC;show aA;show cA;show aU;show b9
 show bC;show Hi;show bB;show o5;show b9
 show iR;show kC;exact QV sc__law_manner.nd rfl cG;show Ag;show kC;exact QV sc__law_manner.nd rfl cG;show iC;show rK;show kU;show cZ j;show cO;show lI;show cZ j;show V';show tY;show kU;show kY;show cO;show lI;show cZ j;show bE e;show aA;show cM;show o9;show aU;exact Qh;show fE;show k7;show aA;show bO;show aA;exact Qb _;show aA;show eS;show gE;exact dG;exact dG;show bD;exact Qb _
noncomputable def JM:FM:=box frN Xf
theorem WU(d:DefAt K mg "_law_manner" Z6 uH)(c:nY)(f:cR)(e:f4)(b:iT)(a:Cal P w K mg base 1 "_law_words" cB ZY):Cal P w K mg base 2 "_law_manner" uH JM:=(WA d c f e b a).box frN
noncomputable abbrev Vu:Stmt:=top 51
theorem sc__law_next:FnScope ["program","rows","spot","way","part","k","head","lines","word"] rL (Qu Vu):=cV
noncomputable def ZC:SM:=(QG (Ja (Qy (Qn wEq j0 xM)) (Zw (mFn V4 (Qc (mFn Zs (Qc aW (Qc a' (Qc (Qn JE c5 aK) jL)))) (Qc (mFn Zs (Qc aW (Qc a' (Qc (Qn JE (Qn wIx (Qn wIx (Qn wIx aL a') c5) aK) aK) jL)))) Ql)))) QR)
  (QG (Ja (Qy (Qn wEq j0 AS)) (Zw (mFn V4 (Qc (mFn Zs (Qc aW (Qc a' (Qc (Qn JE (Qn wIx (Qn wIx (Qn wIx aL a') c5) dA) aK) jL)))) Ql))) QR)
  (QG (Ja (Qy (Qn wEq j0 xR)) (Zw (mFn V4 (Qc (mFn Zs (Qc aW (Qc a' (Qc c5 (Qc j6 Ql))))) Ql))) QR)
  (QG (Ja (Vy (Qy (Qn wEq j0 AO)) (Qy (Qn wEq (Qn wIx (Qn wIx jE (Qn wIx (Qn wIx (Qn wIx aL a') c5) aY)) aY) xR))) (Zw (mFn V4 (Qc (mFn Zs (Qc aW (Qc a' (Qc (Qn wIx (Qn wIx (Qn wIx aL a') c5) aY) (Qc j6 Ql))))) Ql))) QR)
  (QG (Ja (Qy (Qn wEq j0 zB3)) (Zw (mFn V4 (Qc (mFn Zs (Qc (Qn JE aW (mFn Zs (Qc (mFn Zs (Qc a' (Qc c5 Ql))) Ql))) (Qc (mMt "list" YM (Z4 V8 (Zb aG) nL qG YF aG) (Qc (Qn wIx (Qn wIx jE c5) aK) Ql)) (Qc aY jL)))) Ql))) QR)
  (Zw (mFn V4 (Qc (mFn Zs (Qc aW (Qc a' (Qc (Qn JE c5 aK) jL)))) Ql))))))))
noncomputable def ZA:FM:=QM 6
  (QG (Qqg (ZQ [3,4,5,6]) aR)
  (QG (Zi 7 (Qn wIx (Qn wIx aG a') aK))
  (QG (Ja (Qae dB) (Zw (mFn V4 (Qc (mFn Zs (Qc aW (Qc a' (Qc (Qn JE (Qn wIx (Qn wIx (Qn wIx aL a') c5) dA) aK) jL)))) (Qc (mFn Zs (Qc aW (Qc a' (Qc (Qn JE c5 aK) jL)))) Ql)))) QR)
  (QG (Ja (Vy (Qy (Qn wEq c5 (mFn JB kE))) (Qy (Qn wGt (mFn JB (Qc aW Ql)) aY))) (Zw (mFn V4 (Qc (mFn Zs (Qc (mSl aW Qa1 (Qay (mUn Yt aK))) (Qc (Qn wIx (Qn wIx aW (mUn Yt aK)) aY) (Qc (Qn JE (Qn wIx (Qn wIx aW (mUn Yt aK)) aK) aK) jL)))) Ql))) QR)
  (QG (Ja (Qy (Qn wEq c5 (mFn JB kE))) (Zw sN) QR)
  (QG (Zi 8 (Qn wIx (Qn wIx jE c5) aY))
  ZC))))))
set_option maxHeartbeats 4000000 in
theorem Qaa(d:DefAt K mg "_law_next" Vu rL)(c:cR):Cal P w K mg base 1 "_law_next" rL ZA:=by
 refine QK (k:=0) (more:=6) d sc__law_next rfl λf g A b s H E e=>?_;show cY a e;show fX;refine QkY ?_ ?_ ?_ ?_ ?_;exact Qb _;show uB;refine QE sc__law_next.nd rfl cG ?_ ?_;refine QE sc__law_next.nd rfl cG ?_ ?_;refine QE sc__law_next.nd rfl cG ?_ ?_;refine QE sc__law_next.nd rfl cG ?_ ?_;exact Jv
 show eI
 show eI
 show eI
 show eI
 show f3;show f3;exact rfl;show bC;exact sc__law_next.nd;show bB;show cX;show aJ;show cO;show b9
 show cW;show zL1;show bD;show dV;show aA;show bO;show aA;exact Qb _;show aA;exact Qb _;show aA;show cM;show cX;show cX;show aJ;exact Qb _;show cO;exact Qh;show aA;show iH;show aA;show bO;show aA;exact Qb _;show aA;exact Qb _;show aA;show cM;show cO;show aA;show iH;show gE;show cW;show kU;show cZ a;exact Qb _;show dC;show aA;show cA;show lI;show kY;show dC;show aA;show cA;exact Qh;show bD;show dV;show aA;show bO;show aA;show Ay;exact Ku;refine KC ?_;show gI;show aA;show cX;show aJ;show gI;exact Qh;show aA;show cM;show cX;show aJ;show gI;show jS;show aA;show iH;show gE;show cW;show cZ a;exact Qb _;show dC;show aA;show cA;show bD;show dV;show gE;show bC;exact sc__law_next.nd;show bB;show cX;show aJ;show cO;show b9
 show cW;show cZ a;show sF;show bD;show dV;show aA;show bO;show aA;exact Qb _;show aA;exact Qb _;show aA;show cM;show cO;show aA;show iH;show aA;show bO;show aA;exact Qb _;show aA;exact Qb _;show aA;show cM;show cX;show cX;show aJ;exact Qb _;show cO;exact Qh;show aA;show iH;show gE;show cW;show cZ a;show sF;show bD;show dV;show aA;show bO;show aA;exact Qb _;show aA;exact Qb _;show aA;show cM;show cX;show cX;show aJ;exact Qb _;show cO;exact Qh;show aA;show iH;show gE;show cW;show cZ a;show sF;show bD;show dV;show aA;show bO;show aA;exact Qb _;show aA;exact Qb _;show aA;exact Qb _;show aA;show iH;show gE;show cW;show kU;show cZ a;show sF;show lI;show cZ a;show cX;show aJ;show cX;show cX;show aJ;exact Qb _;show cO;show oC;show bD;show dV;show aA;show bO;show aA;exact Qb _;show aA;exact Qb _;show aA;show cX;show cX;show aJ;exact Qb _;show cO;show aA;show iH;show gE;show cW;show cZ a;show sF;show bD;show dV;show aA;show bO;show aA;show cM;exact Qb _;show bO;show aA;show bO;show aA;exact Qb _;show aA;show eS;exact Qe;show aA;refine jm6;exact a;refine Xo J6 ?_ (VH (Nb:=["name","inner"]) (cp:=nL) rfl cF cF rfl rfl) ?_ dZ dZ;exact rfl;show kC;show Ad
 show eI
 show f3;exact Qb _;show aA;show cX;show aJ;show cO;exact Qe;show aA;exact Qh;show aA;show iH;show gE;show bD;show dV;show aA;show bO;show aA;exact Qb _;show aA;exact Qb _;show aA;show cM;show cO;show aA;show iH;exact Qe
noncomputable def ZU:FM:=box frN ZA
theorem Qab(d:DefAt K mg "_law_next" Vu rL)(a:cR):Cal P w K mg base 1 "_law_next" rL ZU:=(Qaa d a).box frN
noncomputable abbrev Xd:Stmt:=top 52
theorem sc__law_all:FnScope ["program","rows","met","path","others","spot"] j5 (Qu Xd):=cV
noncomputable abbrev Jr:SM:=(QG (Zi 4 (Qv 3 ZU (Qc aG (Qc aL (Qc (Qn wIx (Qn wIx aW (mUn Yt aK)) aY) Ql)))))
  (Ja (Qy (Qn wEq (Qn wIx (Qn wIx aW (mUn Yt aK)) aK) (mFn JB (Qc a' Ql)))) (Vi (mMt "list" QlP aW Ql)) (QG (Zi 5 (Qn wIx a' (Qn wIx (Qn wIx aW (mUn Yt aK)) aK)))
  (QG (Qf6 (Qn wIx aW (mUn Yt aK)) aK (Qn JE (Qn wIx (Qn wIx aW (mUn Yt aK)) aK) aK))
  (Ja (Qy (Qn Mg c5 aR)) (QG (Qbi aR c5 j6)
  (Vi (mMt "list" ZD aW (Qc (mFn Wr (Qc c5 (Qc aY Ql))) Ql)))) QR)))))
noncomputable def Kf:FM:=QM 4
  (QG (Zi 2 (Qim (mFn Zs (Qc yW (Qc aY (Qc aY jL)))) j6))
  (QG (Zi 3 (mFn Wr (Qc (mFn Wr (Qc (mFn Zs (Qc yW (Qc aY (Qc aY jL)))) (Qc aY Ql))) Ql)))
  (QG (Zd (Qy (Qn wGt (mFn JB (Qc aW Ql)) aY)) Jr 20000000)
  (Zw (mFn YR (Qc aR Ql))))))
set_option maxHeartbeats 4000000 in
theorem Qap(d:DefAt K mg "_law_all" Xd j5)(g:cR)(c:pZ)(a:Cal P w K mg base 1 "_law_next" rL ZU):Cal P w K mg base 2 "_law_all" j5 Kf:=by
 refine QK (k:=1) (more:=4) d sc__law_all rfl λf i A e s H E h=>?_;show cY b h;show bC;show zb4;show bB;refine Qhu ?_ ?_ ?_;exact b;show bO;show aA;show bO;exact Qe;show aA;exact Qh;show aA;exact Qh;show aA;show iH;exact JD;show b9
 show bC;show zb4;show bB;show wX;show aA;show wX;show aA;show bO;show aA;show bO;exact Qe;show aA;exact Qh;show aA;exact Qh;show aA;show iH;show aA;show fN;exact Qe;show b9
 show fX;show zr7;show kY;show dC;show aA;show cA;exact Qh;show bC;show zb4;show bB;show bE h;show aA;exact Qb _;show aA;show cX;show aJ;show gI;exact Qh;show aU;show b9
 show iC;show cZ b;show cX;show aJ;show gI;exact Qh;show dC;show aA;show cA;show fE;show wV;show Rp;show bC;show zb4;show bB;show aJ;show cX;show aJ;show gI;exact Qh;show b9
 show fX;show uE;show aJ;show gI;exact Qh;show cM;show cX;show aJ;show gI;show jS;exact dG;show f3;show iC;refine Qr (U6 ?_) Qk ?_ ?_;show j4 b;show fX;refine zB4;show j4 b;exact JD;exact rfl;show fE;show k7;show aA;show wX;show aA;exact Qb _;show aA;show fN;show gE;show bD;show zY5;show c6;show aA;show cA
noncomputable def JR:FM:=box frN Kf
theorem Qbc(d:DefAt K mg "_law_all" Xd j5)(c:cR)(b:pZ)(a:Cal P w K mg base 1 "_law_next" rL ZU):Cal P w K mg base 2 "_law_all" j5 JR:=(Qap d c b a).box frN
noncomputable abbrev Vs:Stmt:=top 55
theorem sc__law_made:FnScope jm7 eF (Qu Vs):=cV
noncomputable def Jy:FM:=QM 1
  (QG (Zi 2 (Qn wIx (Qn wIx aG (Qn wIx aL aK)) aK))
  (QG (Ja (Vy (Qbj (Qae (Qn wIx aL l5))) (Vy (Qy (Qn wLt (Qn wIx aL dA) (mFn JB (Qc aR Ql)))) (Qy (Qn wEq (Qn wIx (Qn wIx aR (Qn wIx aL dA)) aY) AK)))) (Zw (Qn wIx (Qn wIx aR (Qn wIx aL dA)) dA)) QR)
  (Zw fB)))
set_option maxHeartbeats 4000000 in
theorem G7(d:DefAt K mg "_law_made" Vs eF)(b:cR):Cal P w K mg base 1 "_law_made" eF Jy:=by
 refine QK (k:=0) (more:=1) d sc__law_made rfl λf g A a s H E e=>?_;show cY c e;show bC;exact sc__law_made.nd;show bB;show cX;show aJ;show aJ;show jS;show b9
 show cW;show kU;show Fa;show aJ;exact Qh;refine Jd ?_ ?_;refine Ho;show aJ;exact Qh;show dC;show aA;show cA;show lI;show cZ c;show cX;show aJ;show aJ;show jS;exact QI;show bD;show cX;show aJ;show aJ;show jS;exact Qz;show bD;exact JV
noncomputable def ZV:FM:=box frN Jy
theorem G5(d:DefAt K mg "_law_made" Vs eF)(a:cR):Cal P w K mg base 1 "_law_made" eF ZV:=(G7 d a).box frN
noncomputable abbrev ZO:Stmt:=top 61
theorem sc__law_makings:FnScope jm8 j5 (Qu ZO):=cV
noncomputable def VL:FM:=QM 1
  (QG (Zi 2 (Qv 2 JR (Qc aG (Qc aL Ql))))
  (Zw (Z4 V8 (YG (Qc (mFn JB (Qc aR Ql)) Ql)) zI1 iN (Qy (Qn Kb (Qv 2 ZV (Qc aL (Qc (Qn wIx aR aG) Ql))) fB)) aG)))
set_option maxHeartbeats 4000000 in
theorem Y3(d:DefAt K mg "_law_makings" ZO j5)(h:cR)(c:f4)(b:Cal P w K mg base 2 "_law_all" j5 JR)(a:Cal P w K mg base 1 "_law_made" eF ZV):Cal P w K mg base 3 "_law_makings" j5 VL:=by
 refine QK (k:=2) (more:=1) d sc__law_makings rfl λf j A e s H E g=>?_;show cY m g;show bC;exact sc__law_makings.nd;exact rfl;exact Id;show bE g;show aA;exact Qb _;show aU;show b9
 show bD;refine Yb J6 ?_ (WV (ks:=["program","every"]) (Nb:=["n","program","every"]) (cp:=zI1) (N:=jm8) (xs:=(Qu ZO)) rfl rfl cF rfl cF (by show zs3 i;rcases i with rfl|rfl<;>rfl) rfl rfl rfl cF) ?_ dZ dZ dZ;exact rfl;show pN;show c6;show aA;show dC;show aA;show cA;show sK;exact QV nT rfl cG;show B7;show bE g;show aA;show aJ;exact Qb _;show aU;exact JV;exact Qb _
noncomputable def Jo:FM:=box frN VL
theorem YY(d:DefAt K mg "_law_makings" ZO j5)(e:cR)(c:f4)(b:Cal P w K mg base 2 "_law_all" j5 JR)(a:Cal P w K mg base 1 "_law_made" eF ZV):Cal P w K mg base 3 "_law_makings" j5 Jo:=(Y3 d e c b a).box frN
noncomputable abbrev JK:Stmt:=top 50
theorem sc__law_blocks:FnScope ["lines","rows","opened","k"] vX (Qu JK):=cV
noncomputable abbrev VP:SM:=(QG (Ja (Qbp (Qy (Qn wEq (Qn wIx (Qn wIx aG aW) aY) xM)) (Qy (Qn wEq (Qn wIx (Qn wIx aG aW) aY) xR))) (Vi (mMt "list" ZD aR (Qc (mFn Wr (Qc aW (Qc aW (Qc aW Ql)))) Ql))) QR)
  (QG (Ja (Qy (Qn wGt (mFn JB (Qc aR Ql)) aY)) (Qf6 aL aW (Qn wIx aR (mUn Yt aK))) QR)
  (QG (Ja (Qy (Qn wEq (Qn wIx (Qn wIx aG aW) aY) AS)) (Qf6 (Qn wIx aR (mUn Yt aK)) aK aW) QR)
  (Ja (Qy (Qn wEq (Qn wIx (Qn wIx aG aW) aY) AO)) (QG (Qf6 (Qn wIx aR (mUn Yt aK)) dA aW)
  (Vi (mMt "list" QlP aR Ql))) QR))))
noncomputable def Jj:FM:=QM 3
  (QG (Zi 1 (Z4 QoQ (Zb aG) [nO] iN YF fB))
  (QG (Zi 2 oB)
  (QG (Ve (YG (Qc (mFn JB (Qc aG Ql)) Ql)) (ZP 3)
  VP)
  (Zw aL))))
set_option maxHeartbeats 4000000 in
theorem Ww(d:DefAt K mg "_law_blocks" JK vX)(e:cR)(a:f4):Cal P w K mg base 1 "_law_blocks" vX Jj:=by
 refine QK (k:=0) (more:=3) d sc__law_blocks rfl λf h A c s H E g=>?_;show cY b g;show fX;refine Qbk sc__law_blocks.nd rfl cG ?_ QjQ ?_ (VH (Nb:=jA) (cp:=[nO]) rfl cF cF rfl rfl) ?_ dZ dZ ?_ ?_
 show eI
 exact rfl;show kC;exact QV nT rfl cG;exact JV;exact dG;exact rfl;show bC;exact sc__law_blocks.nd;show bB;show o5;show b9
 show iR;show pN;show c6;show aA;show dC;show aA;show cA;show sK;exact QV sc__law_blocks.nd rfl cG;show cW;show rK;show cZ b;show cX;show aJ;show cO;exact QI;show tY;show cZ b;show cX;show aJ;show cO;exact QI;show fE;show k7;show aA;show wX;show aA;exact Qb _;show aA;exact Qb _;show aA;show eS;show gE;show cW;show kY;show dC;show aA;show cA;exact Qh;show fE;show uE;show V';show aJ;show gI;exact dG;show f3;exact Qz;show cW;show cZ b;show cX;show aJ;show cO;exact QI;show fE;show uE;show aJ;show gI;show o9;exact dG;show f3;exact Qz;show iC;show cZ b;show cX;show aJ;show cO;exact QI;show fX;show uE;show aJ;show gI;show o9;exact dG;show f3;show fE;show wV;show Rp;exact Qz;exact dG;show bD;exact Qb _
noncomputable def QY:FM:=box frN Jj
theorem WS(d:DefAt K mg "_law_blocks" JK vX)(b:cR)(a:f4):Cal P w K mg base 1 "_law_blocks" vX QY:=(Ww d b a).box frN
noncomputable abbrev JZ:Stmt:=top 11
theorem GF:FnScope [] [] (Qu JZ):=cV
noncomputable def Xs:FM:=QM 0
  (Zw (mFn Zs (Qc yW (Qc aY (Qc aY jL)))))
set_option maxHeartbeats 4000000 in
theorem Um(d:ji1):Cal P w K mg base 1 "first_spot" [] Xs:=by
 refine QK (k:=0) (more:=0) d GF rfl λf c A a s H E b=>?_;show cY e b;show bD;show bO;show aA;show bO;exact Qe;show aA;exact Qh;show aA;exact Qh;show aA;show iH
noncomputable def Jt:FM:=box frN Xs
theorem Ur(d:ji1):zo2:=(Um d).box frN
noncomputable abbrev Xz:Stmt:=top 13
theorem sc_line_of:FnScope jm7 eF (Qu Xz):=cV
noncomputable def V9:FM:=QM 1
  (QG (Zi 2 (Qn wIx (Qn wIx aG (Qn wIx aL aK)) aK))
  (QG (Ja (Qbp (Qae (Qn wIx aL l5)) (Qy (Qn wEq (Qn wIx aL dA) (mFn JB (Qc aR Ql))))) (Zw fB) QR)
  (Zw (Qn wIx aR (Qn wIx aL dA)))))
set_option maxHeartbeats 4000000 in
theorem Qb4(d:DefAt K mg "line_of" Xz eF)(b:cR):Cal P w K mg base 1 "line_of" eF V9:=by
 refine QK (k:=0) (more:=1) d sc_line_of rfl λf g A a s H E e=>?_;show cY c e;show bC;exact sc_line_of.nd;show bB;show cX;show aJ;show aJ;show jS;show b9
 show cW;show rK;refine Xg ?_;show aJ;exact Qh;show tY;show cZ c;show aJ;exact Qh;show dC;show aA;show cA;show bD;exact JV;exact Qz;show bD;show aJ;show aJ;exact Qh
noncomputable def QT:FM:=box frN V9
theorem QbM(d:DefAt K mg "line_of" Xz eF)(a:cR):Cal P w K mg base 1 "line_of" eF QT:=(Qb4 d a).box frN
noncomputable abbrev Ki:Stmt:=top 17
theorem QeQ:FnScope gZ gZ (Qu Ki):=cV
noncomputable def Yw:FM:=QM 0
  (Zw (mFn Zs (Qc (Qn wIx aG aY) (Qc (Qn wIx aG aK) (Qc aL jL)))))
set_option maxHeartbeats 4000000 in
theorem Qds(d:DefAt K mg "at_gap" Ki gZ):Cal P w K mg base 1 "at_gap" gZ Yw:=by
 refine QK (k:=0) (more:=0) d QeQ rfl λf c A a s H E b=>?_;show cY e b;show bD;show bO;show aA;show aJ;exact Qh;show aA;show aJ;exact Qh;show aA;exact Qb _;show aA;show iH
noncomputable def ZK:FM:=box frN Yw
theorem QdC(d:DefAt K mg "at_gap" Ki gZ):Cal P w K mg base 1 "at_gap" gZ ZK:=(Qds d).box frN
noncomputable abbrev XB:Stmt:=top 18
theorem Qdg:FnScope gZ gZ (Qu XB):=cV
noncomputable def KW:FM:=QM 0
  (Zw (mFn Zs (Qc (Qn wIx aG aY) (Qc (Qn wIx aG aK) (Qc aL (Qc j6 Ql))))))
set_option maxHeartbeats 4000000 in
theorem Qb5(d:DefAt K mg "at_head" XB gZ):Cal P w K mg base 1 "at_head" gZ KW:=by
 refine QK (k:=0) (more:=0) d Qdg rfl λf c A a s H E b=>?_;show cY e b;show bD;show bO;show aA;show aJ;exact Qh;show aA;show aJ;exact Qh;show aA;exact Qb _;show aA;show iH
noncomputable def Vm:FM:=box frN KW
theorem QbZ(d:DefAt K mg "at_head" XB gZ):Cal P w K mg base 1 "at_head" gZ Vm:=(Qb5 d).box frN
noncomputable abbrev Jp:Stmt:=top 4
theorem W0:FnScope jA jA (Qu Jp):=cV
noncomputable def Zk:FM:=QM 0
  (QG (Ja (Qbp (Qy (Qn wEq (Qn wIx aG aY) xM)) (Qy (Qn wEq (Qn wIx aG aY) xR))) (Zw aK) QR)
  (Zw (mIf (Qy (Qn wEq (Qn wIx aG aY) AO)) (mUn Yt aK) aY)))
set_option maxHeartbeats 4000000 in
theorem YT(d:DefAt K mg "level_change" Jp jA):Cal P w K mg base 1 "level_change" jA Zk:=by
 refine QK (k:=0) (more:=0) d W0 rfl λf e A a s H E c=>?_;show cY b c;show cW;show rK;show cZ b;show aJ;show oC;show tY;show cZ b;show aJ;show oC;show bD;exact Qh;exact Qz;show bD;refine QjU ?_ ?_ ?_;show cZ b;show aJ;show oC;show gI;exact Qh
noncomputable def Q9:FM:=box frN Zk
theorem YX(d:DefAt K mg "level_change" Jp jA):Ct:=(YT d).box frN
noncomputable abbrev XC:Stmt:=top 3
theorem sc_head_of:FnScope ["lines","k","level","j"] eT (Qu XC):=cV
noncomputable abbrev YI:SM:=(QG (Ql7 2 QfA (Qv 1 Q9 (Qc (Qn wIx aG aW) Ql)))
  (Ja (Qy (Qn wEq aR aK)) (Zw aW) QR))
noncomputable def KZ:FM:=QM 2
  (QG (Zi 2 aY)
  (QG (Ve (Qi7 (Qc (Qn Qag aL aK) (Qc (mUn Yt aK) (Qc (mUn Yt aK) Ql)))) (ZP 3)
  YI)
  (Zw fB)))
set_option maxHeartbeats 4000000 in
theorem Qb1(d:DefAt K mg "head_of" XC eT)(b:f4)(a:Ct):Cal P w K mg base 2 "head_of" eT KZ:=by
 refine QK (k:=1) (more:=2) d sc_head_of rfl λf h A c s H E e=>?_;show cY g e;show bC;exact sc_head_of.nd;show bB;exact Qh;show b9
 show iR;refine Qjo ?_ ?_ ?_ ?_ ?_;show c6;show aA;show o3;show cO;show aA;show gI;show aA;show gI;exact Qe;show f3;exact QV sc_head_of.nd rfl cG;show fX;refine jo7;exact sc_head_of.nd;show bB;show xA;exact e.mono aE;exact rfl;show aA;show aJ;exact Qb _;show aU
 show eI
 show iC;show cZ g;show cO;show bD;show Bm;exact dG;show bD;exact JV
noncomputable def JW:FM:=box frN KZ
theorem Qcc(d:DefAt K mg "head_of" XC eT)(b:f4)(a:Ct):Cal P w K mg base 2 "head_of" eT JW:=(Qb1 d b a).box frN
noncomputable abbrev Jf:Stmt:=top 5
theorem sc_found_behind:FnScope ["lines","k","kind","level","j"] xN (Qu Jf):=cV
noncomputable abbrev XF:SM:=(QG (Ja (Vy (Qy (Qn wEq aW aY)) (Qy (Qn wEq (Qn wIx (Qn wIx aG a') aY) aR))) (Zw a') QR)
  (Ql7 3 QfA (Qv 1 Q9 (Qc (Qn wIx aG a') Ql))))
noncomputable def VQ:FM:=QM 2
  (QG (Zi 3 aY)
  (QG (Ve (Qhk (Qc (Qn JE aL aK) (Qc (mFn JB (Qc aG Ql)) Ql))) Cj
  XF)
  (Zw fB)))
set_option maxHeartbeats 4000000 in
theorem Y6(d:DefAt K mg "found_behind" Jf xN)(e:cR)(b:f4)(a:Ct):Cal P w K mg base 2 "found_behind" xN VQ:=by
 refine QK (k:=1) (more:=2) d sc_found_behind rfl λf i A c s H E h=>?_;show cY g h;show bC;exact sc_found_behind.nd;show bB;exact Qh;show b9
 show iR;refine QiU ?_ ?_ ?_ ?_ ?_;show c6;show aA;show cM;show cO;show aA;show dC;show aA;show cA;exact Qe;show f3;exact QV sc_found_behind.nd rfl cG;show cW;show kU;show cZ g;show cO;show lI;show cZ g;show cX;show aJ;show cO;exact Qb _;show bD;show Bm;show fE;refine jo7;exact sc_found_behind.nd;show bB;show xA;exact h.mono aE;exact rfl;show aA;show aJ;exact Qb _;show aU
 show eI
 exact dG;show bD;exact JV
noncomputable def QQ:FM:=box frN VQ
theorem Y9(d:DefAt K mg "found_behind" Jf xN)(c:cR)(b:f4)(a:Ct):Cr:=(Y6 d c b a).box frN
noncomputable abbrev Yj:Stmt:=top 2
theorem Qis:FnScope eT eT (Qu Yj):=cV
noncomputable def WL:FM:=QM 0
  (Zw (Qv 3 QQ (Qc aG (Qc aL (Qc AS Ql)))))
set_option maxHeartbeats 4000000 in
theorem Qd7(d:DefAt K mg "or_of" Yj eT)(a:Cr):Cal P w K mg base 3 "or_of" eT WL:=by
 refine QK (k:=2) (more:=0) d Qis rfl λf e A b s H E c=>?_;show cY g c;show bD;show bE c;show aA;exact Qb _;show aA;exact QI;show aU
noncomputable def XN:FM:=box frN WL
theorem Qgq(d:DefAt K mg "or_of" Yj eT)(a:Cr):Cal P w K mg base 3 "or_of" eT XN:=(Qd7 d a).box frN
noncomputable abbrev Kg:Stmt:=top 1
theorem Qd9:FnScope eT eT (Qu Kg):=cV
noncomputable def YC:FM:=QM 0
  (Zw (Qv 3 QQ (Qc aG (Qc aL (Qc AO Ql)))))
set_option maxHeartbeats 4000000 in
theorem QdB(d:DefAt K mg "end_of" Kg eT)(a:Cr):Cal P w K mg base 3 "end_of" eT YC:=by
 refine QK (k:=2) (more:=0) d Qd9 rfl λf e A b s H E c=>?_;show cY g c;show bD;show bE c;show aA;exact Qb _;show aA;exact QI;show aU
noncomputable def Jk:FM:=box frN YC
theorem Qdo(d:DefAt K mg "end_of" Kg eT)(a:Cr):Cal P w K mg base 3 "end_of" eT Jk:=(QdB d a).box frN
noncomputable abbrev Jn:Stmt:=top 15
theorem sc_next_in_part:FnScope ["lines","spot","k","kind"] rX (Qu Jn):=cV
noncomputable def Zg:SM:=(QG (Ja (Qy (Qn wEq aW xM)) (Zw (mFn V4 (Qc (Qv 2 ZK (Qc aL (Qc (Qn JE aR aK) Ql))) (Qc (Qv 2 ZK (Qc aL (Qc (Qn JE (Qv 2 XN (Qc aG (Qc aR Ql))) aK) Ql))) Ql)))) QR)
  (QG (Ja (Qy (Qn wEq aW AS)) (Zw (mFn V4 (Qc (Qv 2 ZK (Qc aL (Qc (Qn JE (Qv 2 Jk (Qc aG (Qc aR Ql))) aK) Ql))) Ql))) QR)
  (QG (Ja (Qy (Qn wEq aW xR)) (Zw (mFn V4 (Qc (Qv 2 Vm (Qc aL (Qc aR Ql))) Ql))) QR)
  (QG (Ja (Vy (Qy (Qn wEq aW AO)) (Qy (Qn wEq (Qn wIx (Qn wIx aG (Qv 2 JW (Qc aG (Qc aR Ql)))) aY) xR))) (Zw (mFn V4 (Qc (Qv 2 Vm (Qc aL (Qc (Qv 2 JW (Qc aG (Qc aR Ql))) Ql))) Ql))) QR)
  (Zw (mFn V4 (Qc (Qv 2 ZK (Qc aL (Qc (Qn JE aR aK) Ql))) Ql)))))))
noncomputable def Z3:FM:=QM 2
  (QG (Zi 2 (Qn wIx aL dA))
  (QG (Zi 3 (Qn wIx (Qn wIx aG aR) aY))
  Zg))
set_option maxHeartbeats 4000000 in
theorem Wa(d:DefAt K mg "next_in_part" Jn rX)(g:Cal P w K mg base 1 "at_gap" gZ ZK)(c:Cal P w K mg base 1 "at_head" gZ Vm)(e:Cal P w K mg base 3 "end_of" eT Jk)(b:Cal P w K mg base 2 "head_of" eT JW)(i:Cal P w K mg base 3 "or_of" eT XN):Cal P w K mg base 4 "next_in_part" rX Z3:=by
 refine QK (k:=3) (more:=2) d sc_next_in_part rfl λf l A j s H E a=>?_;show cY h a;show bC;exact sc_next_in_part.nd;show bB;show aJ;exact Qh;show b9
 show bC;exact sc_next_in_part.nd;show bB;show cX;show aJ;show cO;show b9
 show cW;show cZ h;show sF;show bD;show dV;show aA;show bE a;show aA;show cM;show cO;show aU;show aA;show bE a;show aA;show cM;show bE a;show aA;exact Qb _;show aU;exact Qh;show aU;show gE;show cW;show cZ h;show sF;show bD;show dV;show aA;show bE a;show aA;show cM;show bE a;show aA;exact Qb _;show aU;exact Qh;show aU;show gE;show cW;show cZ h;show sF;show bD;show dV;show aA;show bE a;show aA;exact Qb _;show aU;show gE;show cW;show kU;show cZ h;show sF;show lI;show cZ h;show cX;show aJ;show bE a;show aA;exact Qb _;show aU;show oC;show bD;show dV;show aA;show bE a;show aA;show bE a;show aA;exact Qb _;show aU;show aU;show gE;show bD;show dV;show aA;show bE a;show aA;show cM;show cO;show aU;exact Qe
noncomputable def Zq:FM:=box frN Z3
theorem YW(d:DefAt K mg "next_in_part" Jn rX)(e:Cal P w K mg base 1 "at_gap" gZ ZK)(b:Cal P w K mg base 1 "at_head" gZ Vm)(c:Cal P w K mg base 3 "end_of" eT Jk)(a:Cal P w K mg base 2 "head_of" eT JW)(f:Cal P w K mg base 3 "or_of" eT XN):Cal P w K mg base 4 "next_in_part" rX Zq:=(Wa d e b c a f).box frN
noncomputable abbrev VE:Stmt:=top 16
theorem sc_behind_do:FnScope ["spot","way"] jB (Qu VE):=cV
noncomputable def VY:FM:=QM 1
  (QG (Zi 1 (Qn wIx aG aY))
  (QG (Ja (Qbj (Qae aL)) (Zw sN) QR)
  (Zw (mFn V4 (Qc (mFn Zs (Qc (mSl aL Qa1 (Qay (mUn Yt aK))) (Qc (Qn wIx (Qn wIx aL (mUn Yt aK)) aY) (Qc (Qn JE (Qn wIx (Qn wIx aL (mUn Yt aK)) aK) aK) jL)))) Ql)))))
set_option maxHeartbeats 4000000 in
theorem GG(d:DefAt K mg "behind_do" VE jB):Cal P w K mg base 1 "behind_do" jB VY:=by
 refine QK (k:=0) (more:=1) d sc_behind_do rfl λf c A a s H E b=>?_;show cY e b;show bC;exact sc_behind_do.nd;show bB;show aJ;exact Qh;show b9
 show cW;show Fa;exact Qb _;show bD;show dV;show gE;show bD;show dV;show aA;show bO;show aA;show Ay;exact Ku;refine KC ?_;show gI;show aA;show cX;show aJ;show gI;exact Qh;show aA;show cM;show cX;show aJ;show gI;show jS;show aA;show iH;exact Qe
noncomputable def Ji:FM:=box frN VY
theorem G3(d:DefAt K mg "behind_do" VE jB):Cal P w K mg base 1 "behind_do" jB Ji:=(GG d).box frN
noncomputable abbrev JH:Stmt:=top 9
theorem Uu:FnScope pH pH (Qu JH):=cV
noncomputable def Xb:FM:=QM 0
  (Zw (mMt "list" YM (Z4 V8 (Zb aG) [nO] iN YF (Qn wIx aG aY)) (Qc aL Ql)))
set_option maxHeartbeats 4000000 in
theorem Wy(d:DefAt K mg "part_number" JH pH):Cal P w K mg base 1 "part_number" pH Xb:=by
 refine QK (k:=0) (more:=0) d Uu rfl λf e A a s H E c=>?_;show cY b c;show bD;refine jm6;exact b;refine Xo J6 ?_ (VH (Nb:=["part"]) (cp:=[nO]) rfl cF cF rfl rfl) ?_ dZ dZ;exact rfl;show kC;exact QV nT rfl cG;show aJ;exact Qh;show aA;show eS
noncomputable def ZG:FM:=box frN Xb
theorem W3(d:DefAt K mg "part_number" JH pH):Cal P w K mg base 1 "part_number" pH ZG:=(Wy d).box frN
noncomputable abbrev J9:Stmt:=top 14
theorem sc_next_spots:FnScope ["program","spot","lines","line","way"] eF (Qu J9):=cV
noncomputable def Zo:FM:=QM 3
  (QG (Zi 2 (Qn wIx (Qn wIx aG (Qn wIx aL aK)) aK))
  (QG (Ja (Qae (Qn wIx aL l5)) (Zw (mFn V4 (Qc (Qv 2 ZK (Qc aL (Qc (Qn JE (Qv 2 Jk (Qc aR (Qc (Qn wIx aL dA) Ql))) aK) Ql))) (Qc (Qv 2 ZK (Qc aL (Qc (Qn JE (Qn wIx aL dA) aK) Ql))) Ql)))) QR)
  (QG (Zi 3 (Qv 2 QT (Qc aG (Qc aL Ql))))
  (QG (Ja (Qy (Qn wIs aW fB)) (Zw (Qv 1 Ji (Qc aL Ql))) QR)
  (QG (Ja (Qy (Qn wEq (Qn wIx aW aY) zB3)) (QG (Zi 4 (Qn JE (Qn wIx aL aY) (mFn Zs (Qc (mFn Zs (Qc (Qn wIx aL aK) (Qc (Qn wIx aL dA) Ql))) Ql))))
  (Zw (mFn V4 (Qc (mFn Zs (Qc a' (Qc (Qv 2 ZG (Qc aG (Qc (Qn wIx aW aK) Ql))) (Qc aY jL)))) Ql)))) QR)
  (Zw (Qv 2 Zq (Qc aR (Qc aL Ql)))))))))
set_option maxHeartbeats 4000000 in
theorem Uh(d:DefAt K mg "next_spots" J9 eF)(i:Cal P w K mg base 1 "at_gap" gZ ZK)(c:Cal P w K mg base 1 "behind_do" jB Ji)(h:Cal P w K mg base 3 "end_of" eT Jk)(g:Cal P w K mg base 1 "line_of" eF QT)(a:Cal P w K mg base 4 "next_in_part" rX Zq)(b:Cal P w K mg base 1 "part_number" pH ZG):Cal P w K mg base 5 "next_spots" eF Zo:=by
 refine QK (k:=4) (more:=3) d sc_next_spots rfl λf m A j s H E e=>?_;show cY l e;show bC;exact sc_next_spots.nd;show bB;show cX;show aJ;show aJ;show jS;show b9
 show cW;refine Xg ?_;show aJ;exact Qh;show bD;show dV;show aA;show bE e;show aA;show cM;show bE e;show aA;show aJ;exact Qh;show aU;exact Qh;show aU;show aA;show bE e;show aA;show cM;show aJ;show jS;show aU;show gE;show bC;exact sc_next_spots.nd;show bB;show bE e;show aA;exact Qb _;show aU;show b9
 show cW;refine Qr QiY Qk ?_ ?_;show ze6;show bD;show bE e;show aU;exact Qz;show cW;show cZ l;show aJ;show oC;show bC;exact sc_next_spots.nd;show bB;show cM;show aJ;exact Qh;show bO;show aA;show bO;show aA;show aJ;exact Qh;show aA;show aJ;show fN;exact Qe;show b9
 show bD;show dV;show aA;show bO;show aA;exact Qb _;show aA;show bE e;show aA;show aJ;exact Qh;show aU;show aA;exact Qh;show aA;show iH;show gE;show bD;show bE e;show aA;exact Qb _;show aU
noncomputable def QJ:FM:=box frN Zo
theorem Ul(d:DefAt K mg "next_spots" J9 eF)(g:Cal P w K mg base 1 "at_gap" gZ ZK)(c:Cal P w K mg base 1 "behind_do" jB Ji)(f:Cal P w K mg base 3 "end_of" eT Jk)(e:Cal P w K mg base 1 "line_of" eF QT)(a:Cal P w K mg base 4 "next_in_part" rX Zq)(b:Cal P w K mg base 1 "part_number" pH ZG):Cal P w K mg base 5 "next_spots" eF QJ:=(Uh d g c f e a b).box frN
noncomputable abbrev Yr:Stmt:=top 22
theorem sc_spots:FnScope ["program","met","waiting","spot","later"] cB (Qu Yr):=cV
noncomputable abbrev U9:SM:=(Vi (mMt "list" ZD aR (Qc a' Ql)))
noncomputable abbrev Yu:SM:=(QG (Zi 3 (mMt "list" QlP aR Ql))
  (Ja (Qy (Qn Mg aW aL)) (QG (Qbi aL aW j6)
  (Ve (QhG (Qc (Qv 2 QJ (Qc aG (Qc aW Ql))) Ql)) Cj
  U9)) QR))
noncomputable def Wx:FM:=QM 4
  (QG (Zi 1 QfU)
  (QG (Zi 2 (mFn Wr (Qc (Qv 0 Jt Ql) Ql)))
  (QG (Zd (Qae aR) Yu 20000000)
  (Zw (mFn YR (Qc aL Ql))))))
set_option maxHeartbeats 4000000 in
theorem Qew(d:DefAt K mg "spots" Yr cB)(e:pZ)(c:Hg)(a:zo2)(b:Cal P w K mg base 5 "next_spots" eF QJ):Cal P w K mg base 6 "spots" cB Wx:=by
 refine QK (k:=5) (more:=4) d sc_spots rfl λf j A g s H E h=>?_;show cY i h;show bC;exact sc_spots.nd;show bB;exact Qfy;show b9
 show bC;exact sc_spots.nd;show bB;show wX;show aA;exact Qgj a (h.mono aE) rfl;exact Qe;show b9
 show fX;show zr7;show zL1;show bC;exact sc_spots.nd;show bB;show Rp;show b9
 show iC;refine Qr (U6 ?_) Qk ?_ ?_;show j4 i;show fX;refine zB4;show j4 i;exact JD;exact rfl;show Ag;refine Qj7 ?_ ?_ ?_ ?_;show c6;show aA;show bE h;show aA;exact Qb _;show aU;show sK;exact QV sc_spots.nd rfl cG;show fE;show k7;show aA;show eS;exact dG;exact Qz;show bD;show zY5;show c6;show aA;show cA
noncomputable def Zn:FM:=box frN Wx
theorem QeJ(d:DefAt K mg "spots" Yr cB)(e:pZ)(c:Hg)(b:zo2)(a:Cal P w K mg base 5 "next_spots" eF QJ):Cal P w K mg base 6 "spots" cB Zn:=(Qew d e c b a).box frN
noncomputable abbrev Xa:Stmt:=top 12
theorem QbD:FnScope jB jB (Qu Xa):=cV
noncomputable def Kj:FM:=QM 0
  (Zw (mIf (Qae (Qn wIx aG l5)) fB (mFn Zs (Qc (Qn wIx aG aK) (Qc (Qn wIx aG dA) Ql)))))
set_option maxHeartbeats 4000000 in
theorem Qar(d:DefAt K mg "place_of" Xa jB):Cal P w K mg base 1 "place_of" jB Kj:=by
 refine QK (k:=0) (more:=0) d QbD rfl λf c A a s H E b=>?_;show cY e b;show bD;refine QjU ?_ ?_ ?_;refine Xg ?_;show aJ;exact Qh;exact JV;show bO;show aA;show aJ;exact Qh;show aA;show aJ;show fN
noncomputable def Zp:FM:=box frN Kj
theorem QaR(d:DefAt K mg "place_of" Xa jB):Cu:=(Qar d).box frN
noncomputable abbrev Xh:Stmt:=top 24
theorem sc_steps_of:FnScope ["program","listed","numbers","steps","n","spot","line","later"] cB (Qu Xh):=cV
noncomputable abbrev Yp:SM:=(Vi (mMt "list" ZD aW (Qc (mFn Zs (Qc a' (Qc dB (Qc (Qn QmU aR jE) (Qc (Qv 1 Zp kE) Ql))))) Ql)))
noncomputable abbrev Yf:SM:=(QG (Zi 6 (Qv 2 QT (Qc aG (Qc c5 Ql))))
  (Ve (Zb (Qv 2 QJ (Qc aG (Qc c5 Ql)))) (ZP 7)
  Yp))
noncomputable def Kc:FM:=QM 7
  (QG (Zi 1 (Qv 1 Zn (Qc aG Ql)))
  (QG (Zi 2 (mFn X8 (Qc (Z4 V8 (JF (Qc aL Ql)) nL qG YF (mFn Zs (Qc aL (Qc aG Ql)))) Ql)))
  (QG (Zi 3 oB)
  (QG (Ve (JF (Qc aL Ql)) (ZQ [4,5])
  Yf)
  (Zw aW)))))
set_option maxHeartbeats 4000000 in
theorem Qai(d:DefAt K mg "steps_of" Xh cB)(i:n9)(b:nY)(e:Cal P w K mg base 1 "line_of" eF QT)(a:Cal P w K mg base 5 "next_spots" eF QJ)(c:Cu)(h:Cal P w K mg base 6 "spots" cB Zn):Cal P w K mg base 7 "steps_of" cB Kc:=by
 refine QK (k:=6) (more:=7) d sc_steps_of rfl λf m A j s H E g=>?_;show cY l g;show bC;show zb5;show bB;show bE g;show aU;show b9
 show bC;show zb5;show bB;show zV3 l;show c6;show aA;refine Xo J6 ?_ (VH (Nb:=["n","spot"]) (cp:=nL) rfl cF cF rfl rfl) ?_ dZ dZ;show zv7;show c6;show aA;show eS;exact rfl;show Ad
 show eI
 show f3;show bO;show aA;exact Qb _;show aA;show eS;show jJ;show b9
 show bC;show zb5;show bB;show o5;show b9
 show iR;refine Yg ?_ ?_ ?_ ?_;show c6;show aA;show eS;exact rfl;show uB;refine QE sc_steps_of.nd rfl cG ?_ ?_;refine QE sc_steps_of.nd rfl cG ?_ ?_;exact Jv
 show eI
 show eI
 show f3;show bC;show zb5;show bB;show bE g;show aA;exact Qb _;show aU;show b9
 show Ag;refine Z9 ?_;show bE g;show aA;exact Qb _;show aU;exact QV sc_steps_of.nd rfl cG;show fE;show k7;show aA;show bO;show aA;exact Qb _;show aA;exact Qb _;show aA;refine QnG ?_ ?_ ?_ ?_;show j4 l;exact sT;show aA;show bE g;show aU;show oD;exact dG;exact dG;show bD;exact Qb _
noncomputable def Vg:FM:=box frN Kc
theorem QaG(d:DefAt K mg "steps_of" Xh cB)(g:n9)(b:nY)(e:Cal P w K mg base 1 "line_of" eF QT)(a:Cal P w K mg base 5 "next_spots" eF QJ)(c:Cu)(f:Cal P w K mg base 6 "spots" cB Zn):Cal P w K mg base 7 "steps_of" cB Vg:=(Qai d g b e a c f).box frN
noncomputable abbrev Vq:Stmt:=top 7
theorem Qbh:FnScope jA jA (Qu Vq):=cV
noncomputable def J4:FM:=QM 0
  (Zw (mIf (Vy (Qy (Qn Kb aG fB)) (Qy (Qn wEq (Qn wIx aG aY) AK))) (Qn wIx aG dA) fB))
set_option maxHeartbeats 4000000 in
theorem G9(d:DefAt K mg "made_word" Vq jA):Ak J4:=by
 refine QK (k:=0) (more:=0) d Qbh rfl λf e A a s H E c=>?_;show cY b c;show bD;refine QjU ?_ ?_ ?_;show kU;show B7;show ze6;show lI;show cZ b;show aJ;show oC;show aJ;exact Qh;exact JV
noncomputable def Q4:FM:=box frN J4
theorem GL(d:DefAt K mg "made_word" Vq jA):Ak Q4:=(G9 d).box frN
noncomputable abbrev ZJ:Stmt:=top 29
theorem WM:FnScope cB cB (Qu ZJ):=cV
noncomputable def VN:FM:=QM 0
  (Zw (Z4 V8 (JF (Qc (Qv 1 Zn (Qc aG Ql)) Ql)) [nO,nO,sO 0] qG (Qy (Qn Kb (Qv 1 Q4 (Qc (Qv 2 QT (Qc aR (Qc aL Ql))) Ql)) fB)) aG))
set_option maxHeartbeats 4000000 in
theorem Y8(d:DefAt K mg "making_spots" ZJ cB)(b:nY)(c:Cal P w K mg base 1 "line_of" eF QT)(a:Ak Q4)(e:Cal P w K mg base 6 "spots" cB Zn):Cal P w K mg base 7 "making_spots" cB VN:=by
 refine QK (k:=6) (more:=0) d WM rfl λf j A h s H E g=>?_;show cY m g;show bD;refine Yb J6 ?_ (WV (ks:=cB) (Nb:=["n","spot","program"]) (cp:=[nO,nO,sO 0]) (N:=cB) (xs:=(Qu ZJ)) rfl rfl cF rfl cF (Cp i) rfl rfl rfl cF) ?_ dZ dZ dZ;show zv7;show c6;show aA;show bE g;show aU;show sK;show Ad
 show eI
 show f3;show B7;show xA;exact g.mono aE;exact rfl;show aA;show bE g;show aA;exact Qb _;show aU;show aU;exact JV;exact Qb _
noncomputable def Q8:FM:=box frN VN
theorem Y2(d:DefAt K mg "making_spots" ZJ cB)(b:nY)(c:Cal P w K mg base 1 "line_of" eF QT)(a:Ak Q4)(e:Cal P w K mg base 6 "spots" cB Zn):Cal P w K mg base 7 "making_spots" cB Q8:=(Y8 d b c a e).box frN
noncomputable abbrev Zu:Stmt:=top 26
theorem sc_giving_spots:FnScope zo7 rH (Qu Zu):=cV
noncomputable def VR:FM:=QM 1
  (QG (Zi 3 (mFn X8 (Qc (Z4 V8 (Zb aL) [nO,nO,sO 2] qG (Qy (Qn wEq aG aR)) (mFn Zs (Qc aL (Qc j6 Ql)))) Ql)))
  (Zw (mFn KM (Qc (Z4 V8 (JF (Qc (Qv 1 Zn (Qc aG Ql)) Ql)) [nO,nO,sO 3] qG (Qy (Qn QdJ (Qv 1 Zp (Qc aL Ql)) aR)) (mFn Zs (Qc aG (Qc j6 Ql)))) Ql))))
set_option maxHeartbeats 4000000 in
theorem YV(d:DefAt K mg "giving_spots" Zu rH)(g:n9)(a:nY)(b:Cu)(e:Cal P w K mg base 6 "spots" cB Zn):Cal P w K mg base 7 "giving_spots" rH VR:=by
 refine QK (k:=6) (more:=1) d sc_giving_spots rfl λf n A h s H E j=>?_;show cY i j;show bC;exact sc_giving_spots.nd;exact rfl;exact Id;show zV3 i;show c6;show aA;refine Yb J6 ?_ (WV (ks:=["word"]) (Nb:=["other","place","word"]) (cp:=[nO,nO,sO 2]) (N:=zo7) (xs:=(Qu Zu)) rfl rfl cF rfl cF (Cp c) rfl rfl rfl cF) ?_ dZ dZ dZ;exact rfl;show kC;show Ad
 show eI
 show f3;show cZ i;show V';show bO;show aA;exact Qb _;show aA;show iH;show jJ;show b9
 show bD;show zn1;show c6;show aA;refine Yb J6 ?_ (WV (ks:=["places"]) (Nb:=["n","spot","places"]) (cp:=[nO,nO,sO 3]) (N:=zo7) (xs:=(Qu Zu)) rfl rfl cF rfl cF (Cp c) rfl rfl rfl cF) ?_ dZ dZ dZ;show zv7;show c6;show aA;show bE j;show aU;show sK;show Ad
 show eI
 show f3;refine Qr (Qhw ?_) Qk ?_ ?_;exact i;show bE j;show aU;exact Qb _;show bO;show aA;exact Qb _;show aA;show iH;show jJ
noncomputable def ZI:FM:=box frR VR
theorem Y0(d:DefAt K mg "giving_spots" Zu rH)(e:n9)(a:nY)(b:Cu)(c:Cal P w K mg base 6 "spots" cB Zn):Cal P w K mg base 7 "giving_spots" rH ZI:=(YV d e a b c).box frR
noncomputable abbrev XI:Stmt:=top 20
theorem sc_reached:FnScope ["steps","starts","shut","later","n","line","m","m_place","found","layer","further"] rM (Qu XI):=cV
noncomputable abbrev Xk:SM:=(Ja (Qy (Qn BE a' aR)) (Vi (mMt "list" ZD (mMt "dict" Ql1 aW (Qc a' (Qc oB Ql))) (Qc dB Ql))) QR)
noncomputable abbrev Vt:SM:=(Ja (Qy (Qn BE dB j0)) (QG (QaQ j0 dB (mFn Zs (Qc (Qn JE (Qn wIx (Qn Qcl j0 a') aY) aK) (Qc a' Ql))))
  (Vi (mMt "list" ZD r0 (Qc dB Ql)))) QR)
noncomputable abbrev VA:SM:=(Ve (Zb (mMt "dict" G8 aW (Qc a' (Qc sN Ql)))) A0
  Vt)
noncomputable abbrev JT:SM:=(QG (Zi 10 oB)
  (QG (Ve (Zb e') Cj
  VA)
  (Zi 9 r0)))
noncomputable def KY:FM:=QM 8
  (QG (Zi 3 QeM)
  (QG (Ve (Zb aG) (ZQ [4,5,6,7])
  Xk)
  (QG (Zi 8 (mFn KM (Qc (Z4 V8 (Zb aL) [nO] iN YF (mFn Zs (Qc aG (Qc (mFn Zs (Qc aY (Qc fB Ql))) Ql)))) Ql)))
  (QG (Zi 9 (mFn Qao (Qc j0 Ql)))
  (QG (Zd (Qae e') JT 20000000)
  (Zw j0))))))
set_option maxHeartbeats 4000000 in
theorem Qcd(d:DefAt K mg "reached" XI rM)(c:n9)(b:pZ):Cal P w K mg base 1 "reached" rM KY:=by
 refine QK (k:=0) (more:=8) d sc_reached rfl λf h A e s H E g=>?_;show cY a g;show bC;show J';show bB;exact QeL;show b9
 show iR;show kC;show uB;refine QE sc_reached.nd rfl cG ?_ ?_;refine QE sc_reached.nd rfl cG ?_ ?_;refine QE sc_reached.nd rfl cG ?_ ?_;refine QE sc_reached.nd rfl cG ?_ ?_;exact Jv
 show eI
 show eI
 show eI
 show eI
 show f3;show iC;refine CY;show j4 a;show fE;show wV;refine Xi NO NX N3 Za ?_ ?_;refine Xi Fv Lv PySem.F.type_dict_setdefault (QkN ?_) ?_ ?_;show vW a;show aA;exact Qb _;show aA;show o5;exact Qe;show aA;show eS;exact Qz;exact dG;show bC;show J';show bB;show zn1;show c6;show aA;refine Xo J6 ?_ (VH (Nb:=["n"]) (cp:=[nO]) rfl cF cF rfl rfl) ?_ dZ dZ;exact rfl;show kC;exact QV nT rfl cG;show bO;show aA;exact Qb _;show aA;show bO;show aA;exact Qh;show aA;exact JV;show oD;show jJ;show b9
 show bC;show J';show bB;refine Q5 (QbV ?_) Qs ?_ ?_ DF ?_ ?_ ?_ ?_ ?_;exact rfl;show c6;show aA;show cA;show b9
 show fX;show zr7;show zL1;show bC;show J';show bB;show o5;show b9
 show iR;show kC;exact QV sc_reached.nd rfl cG;show Ag;refine Z9 ?_;refine Xi Fv FJ O7 (QhJ ?_) ?_ ?_;show vW a;show aA;exact Qb _;show aA;show dV;show oD;exact QV sc_reached.nd rfl cG;show iC;refine CY;show j4 a;show fX;refine QcW ?_ ?_ ?_ ?_ ?_;show j4 a;show bO;show aA;show cM;show cX;show R9;show cO;exact Qh;show aA;show eS;exact rfl;show fE;show k7;show aA;show eS;exact Qz;exact dG;exact dG;show xD;show J';show bB;exact Qb _;show b9
 show bD;exact Qb _
noncomputable def V2:FM:=box frR KY
theorem Qb7(d:DefAt K mg "reached" XI rM)(b:n9)(a:pZ):Cal P w K mg base 1 "reached" rM V2:=(Qcd d b a).box frR
noncomputable abbrev Xv:Stmt:=top 28
theorem sc_clashes:FnScope ["program","manner","steps","makers","pairs","n","line","m","m_place","shut","used","other"] xO (Qu Xv):=cV
noncomputable abbrev VG:SM:=(Ja (Vy (Qy (Qn wNe zW c5)) (Vy (Qy (Qn Me zW r0)) (Qy (Qn BE zW e')))) (Qbi a' (mFn Zs (Qc (mFn QdU (Qc c5 (Qc zW Ql))) (Qc (mFn Ql6 (Qc c5 (Qc zW Ql))) Ql))) j6) QR)
noncomputable abbrev VD:SM:=(Ja (Qy (Qn Kb (Qv 1 Q4 (Qc dB Ql)) fB)) (QG (Zi 9 (Qv 3 ZI (Qc aG (Qc aL (Qc (Qv 1 Q4 (Qc dB Ql)) Ql)))))
  (QG (Zi 10 (Qv 3 V2 (Qc aR (Qc (mFn V4 kE) (Qc e' Ql)))))
  (Ve (Zb aW) (ZP 11)
  VG))) QR)
noncomputable def K2:FM:=QM 10
  (QG (Zi 2 (Qv 1 Vg (Qc aG Ql)))
  (QG (Zi 3 (Qv 1 Q8 (Qc aG Ql)))
  (QG (Zi 4 QfU)
  (QG (Ve (Zb aR) (ZQ [5,6,7,8])
  VD)
  (Zw (mFn K8 (Qc a' Ql)))))))
set_option maxHeartbeats 4000000 in
theorem QbC(d:DefAt K mg "clashes" Xv xO)(n:mg "max"=nO)(m:y')(i:yM)(b:Cal P w K mg base 7 "giving_spots" rH ZI)(c:Ak Q4)(a:Cal P w K mg base 7 "making_spots" cB Q8)(h:Cal P w K mg base 1 "reached" rM V2)(e:Cal P w K mg base 7 "steps_of" cB Vg):Cal P w K mg base 8 "clashes" xO K2:=by
 refine QK (k:=7) (more:=10) d sc_clashes rfl λf o A l s H E g=>?_;show cY j g;show bC;show KK;show bB;show bE g;show aU;show b9
 show bC;show KK;show bB;show bE g;show aU;show b9
 show bC;show KK;show bB;exact Qfy;show b9
 show iR;show kC;show uB;refine QE sc_clashes.nd rfl cG ?_ ?_;refine QE sc_clashes.nd rfl cG ?_ ?_;refine QE sc_clashes.nd rfl cG ?_ ?_;refine QE sc_clashes.nd rfl cG ?_ ?_;exact Jv
 show eI
 show eI
 show eI
 show eI
 show f3;show iC;show B7;show bE g;show aU;exact JV;show bC;show KK;show bB;show bE g;show aA;exact Qb _;show aA;show bE g;show aU;show aU;show b9
 show bC;show KK;show bB;show bE g;show aA;show dV;show aA;show eS;show aA;exact Qb _;show aU;show b9
 show Ag;show kC;exact QV sc_clashes.nd rfl cG;show iC;show kU;refine CU;show j4 j;refine Jd ?_ ?_;refine zy2;show j4 j;show lI;refine CY;show j4 j;show fE;refine zB4;show vW j;show bO;show aA;show Pq;show c6;show aA;exact Qb _;show aA;show cA;show aA;show zX5;show c6;show aA;exact Qb _;show aA;show cA;exact Qe;exact JD;exact rfl;exact Qz;exact dG;exact Qz;exact dG;show bD;refine Qw (Ge ?_ ?_) Qs ?_ ?_ Lh ?_ ?_ ?_ ?_ ?_;exact j;exact rfl;show c6;show aA;show cA
noncomputable def ZL:FM:=box frN K2
theorem QbW(d:DefAt K mg "clashes" Xv xO)(i:mg "max"=nO)(h:y')(g:yM)(b:Cal P w K mg base 7 "giving_spots" rH ZI)(c:Ak Q4)(a:Cal P w K mg base 7 "making_spots" cB Q8)(f:Cal P w K mg base 1 "reached" rM V2)(e:Cal P w K mg base 7 "steps_of" cB Vg):Af:=(QbC d i h g b c a f e).box frN
noncomputable abbrev ZM:Stmt:=top 37
theorem sc_checked_makers:FnScope ["program","makers"] cB (Qu ZM):=cV
noncomputable def J5:FM:=QM 1
  (QG (Zi 1 (Qv 1 Q8 (Qc aG Ql)))
  (QG (Ja (Qy (Qn wGt (mFn JB (Qc aL Ql)) (mC Z7))) QmT QR)
  (Zw aL)))
set_option maxHeartbeats 4000000 in
theorem Yh(d:DefAt K mg "checked_makers" ZM cB)(a:jm9)(e:cR)(b:Cal P w K mg base 7 "making_spots" cB Q8):Cal P w K mg base 8 "checked_makers" cB J5:=by
 refine QK (k:=7) (more:=1) d sc_checked_makers rfl λf h A c s H E g=>?_;show cY i g;show bC;exact sc_checked_makers.nd;show bB;show bE g;show aU;show b9
 show cW;show kY;show dC;show aA;show cA;exact Qh7 a rfl;show fE;exact Qg5;exact Qz;show bD;exact Qb _
noncomputable def QS:FM:=box frN J5
theorem Yd(d:DefAt K mg "checked_makers" ZM cB)(b:jm9)(c:cR)(a:Cal P w K mg base 7 "making_spots" cB Q8):Cal P w K mg base 8 "checked_makers" cB QS:=(Yh d b c a).box frN
noncomputable abbrev J3:Stmt:=top 39
theorem sc_last_clash:FnScope ["makers","clashing","taken","k","couple"] p9 (Qu J3):=cV
noncomputable abbrev Zr:SM:=(QG (Zi 4 (mFn Zs (Qc (Qn wIx aG aW) (Qc (Qn wIx aG (Qn Qag (mFn JB (Qc aR Ql)) aK)) Ql))))
  (Ja (Vy (Qy (Qn wEq (Qn wIx aR aW) (Qn wIx aR (mUn Yt aK)))) (Qy (Qn IO a' aL))) (Zw a') QR))
noncomputable def JL:FM:=QM 2
  (QG (Ve (YG (Qc (Qn Qag (mFn JB (Qc aR Ql)) aK) Ql)) (ZP 3)
  Zr)
  (Zw fB))
set_option maxHeartbeats 4000000 in
theorem UA(d:DefAt K mg "last_clash" J3 p9)(c:cR)(a:f4):Cal P w K mg base 1 "last_clash" p9 JL:=by
 refine QK (k:=0) (more:=2) d sc_last_clash rfl λf h A b s H E g=>?_;show cY e g;show iR;show pN;show c6;show aA;show o3;show dC;show aA;show cA;show fN;exact rfl;exact QV sc_last_clash.nd rfl cG;show bC;exact sc_last_clash.nd;show bB;show bO;show aA;show aJ;exact Qb _;show aA;show aJ;show o3;show dC;show aA;show cA;show fN;show b9
 show iC;show kU;show cZ e;show aJ;exact Qb _;show aJ;show gI;show lI;refine Qr (Qgw ?_) Qk ?_ ?_;show j4 e;show bD;show Bm;exact dG;show bD;exact JV
noncomputable def Z0:FM:=box frN JL
theorem Uo(d:DefAt K mg "last_clash" J3 p9)(b:cR)(a:f4):Cal P w K mg base 1 "last_clash" p9 Z0:=(UA d b a).box frN
noncomputable abbrev Vb:Stmt:=top 40
theorem Gp:FnScope uO uO (Qu Vb):=cV
noncomputable def Xp:FM:=QM 0
  (Zw (mFn QdU (Qc (Qn JE (mFn XW (Qc aG Ql)) aK) (Qc aL Ql))))
set_option maxHeartbeats 4000000 in
theorem Ux(d:DefAt K mg "open_rooms" Vb uO)(e:cR)(c:y')(b:Br):Cal P w K mg base 1 "open_rooms" uO Xp:=by
 refine QK (k:=0) (more:=0) d Gp rfl λf h A a s H E g=>?_;show cY i g;show bD;show Pq;show c6;show aA;show cM;show jo8;show c6;show c6;show HP;exact Qh;show aA;show cA
noncomputable def QU:FM:=box frN Xp
theorem Uy(d:DefAt K mg "open_rooms" Vb uO)(c:cR)(b:y')(a:Br):wZ:=(Ux d c b a).box frN
noncomputable abbrev Kw:Stmt:=top 38
theorem sc_cases:FnScope ["makers","clashing","many","taken","clash","branches","room","found"] mT (Qu Kw):=cV
noncomputable abbrev V1(a:FM):SM:=(QG (Zi 7 (Qv 4 a (Qc aG (Qc aL (Qc aR (Qc (Qn JE aW (mFn Zs (Qc dB Ql))) Ql))))))
  (QG (Ja (Qy (Qn Kb (Qn wIx jE aY) fB)) (Zw jE) QR)
  (Vi (mMt "list" ZD c5 (Qc (Qn wIx jE aK) Ql)))))
noncomputable def Xx(a:FM):FM:=QM 4
  (QG (Zi 4 (Qv 3 Z0 (Qc aG (Qc aL (Qc aW Ql)))))
  (QG (Ja (Qy (Qn Kb a' fB)) (Zw (mFn Zs (Qc fB (Qc (Qn JE (mFn Zs (Qc pD Ql)) a') Ql)))) QR)
  (QG (Ja (Qy (Qn wEq (mFn JB (Qc aW Ql)) (mFn JB (Qc aG Ql)))) (Zw (mFn Zs (Qc aW (Qc fB Ql)))) QR)
  (QG (Zi 5 oB)
  (QG (Ve (YG (Qc (Qv 2 QU (Qc aW (Qc aR Ql))) Ql)) A0
  (V1 a))
  (Zw (mFn Zs (Qc fB (Qc (mFn Zs (Qc uJ (Qc (Qn wIx aG (mFn JB (Qc aW Ql))) (Qc (mFn XA (Qc c5 Ql)) Ql)))) Ql)))))))))
set_option maxHeartbeats 4000000 in
theorem Qga{k:Nat}{c:FM}(o:1<=k)(d:DefAt K mg "cases" Kw mT)(l:cR)(g:f4)(e:jP)(b:Cal P w K mg base 1 "last_clash" p9 Z0)(a:wZ)(j:Cal P w K mg base k "cases" mT c):Cal P w K mg base (k+1) "cases" mT (Xx c):=by
 refine QK (k:=k) (more:=4) d sc_cases rfl λf n A i s H E h=>?_;show cY m h;show bC;exact sc_cases.nd;show bB;show jH h;show aA;exact Qb _;show aA;exact Qb _;show aA;exact Qb _;show aU;show b9
 show cW;show B7;show ze6;show bD;show bO;show aA;exact JV;show aA;show cM;show bO;show aA;exact QI;exact Qe;show eS;exact Qz;show cW;show cZ m;show dC;show aA;show cA;show dC;show aA;show cA;show bD;show bO;show aA;exact Qb _;show aA;exact JV;show gE;show bC;exact sc_cases.nd;show bB;show o5;show b9
 show iR;show pN;show c6;show aA;show jH h;show aA;exact Qb _;show aA;exact Qb _;show aU;show sK;exact QV sc_cases.nd rfl cG;show bC;exact sc_cases.nd;show bB;show jH h;show aA;exact Qb _;show aA;exact Qb _;show aA;exact Qb _;show aA;show cM;exact Qb _;show bO;show aA;show eS;show aU;show b9
 show cW;show B7;show aJ;exact Qh;exact JV;show bD;show Bm;show fE;show k7;show aA;show aJ;show fN;exact dG;show bD;show bO;show aA;exact JV;show aA;show bO;show aA;exact QI;show aA;show aJ;show dC;show aA;show cA;show aA;show rG;show c6;show aA;show cA;show oD
noncomputable def J0:Nat->FM
 |0=>QM 4 zJ
 |n+1=>box frN (Xx (J0 n))
theorem Qeu(d:DefAt K mg "cases" Kw mT)(f:cR)(e:f4)(c:jP)(b:Cal P w K mg base 1 "last_clash" p9 Z0)(a:wZ):∀n,Cal P w K mg base (2+n) "cases" mT (J0 n):=by
 intro n
 induction n with
 |zero=>
  exact QK (k:=1) (more:=4) d sc_cases rfl CN
 |succ n g=>
  exact(Qga (k:=2+n) bR d f e c b a (g)).box frN
noncomputable def Kx:FM:=J0 10
theorem Qfe(d:DefAt K mg "cases" Kw mT)(f:cR)(e:f4)(c:jP)(b:Cal P w K mg base 1 "last_clash" p9 Z0)(a:wZ):Cal P w K mg base 12 "cases" mT Kx:=Qeu d f e c b a 10
noncomputable abbrev XD:Stmt:=top 35
theorem sc_too_few:FnScope ["program","manner","many","makers"] u8 (Qu XD):=cV
noncomputable def XO:FM:=QM 1
  (QG (Zi 3 (Qv 1 QS (Qc aG Ql)))
  (Zw (Qn wIx (Qv 4 Kx (Qc aW (Qc (Qv 2 ZL (Qc aG (Qc aL Ql))) (Qc aR (Qc yW Ql))))) aK)))
set_option maxHeartbeats 4000000 in
theorem Qci(d:DefAt K mg "too_few" XD u8)(c:Cal P w K mg base 12 "cases" mT Kx)(a:Cal P w K mg base 8 "checked_makers" cB QS)(b:Af):Cal P w K mg base 13 "too_few" u8 XO:=by
 refine QK (k:=12) (more:=1) d sc_too_few rfl λf h A g s H E e=>?_;show cY i e;show bC;exact sc_too_few.nd;show bB;show bE e;show aU;show b9
 show bD;show cX;show bE e;show aA;show bE e;show aA;exact Qb _;show aU;show aA;exact Qb _;show aA;show bO;exact Qe;show aU;exact Qh
noncomputable def XE:FM:=box frN XO
theorem QbI(d:DefAt K mg "too_few" XD u8)(c:Cal P w K mg base 12 "cases" mT Kx)(a:Cal P w K mg base 8 "checked_makers" cB QS)(b:Af):Cal P w K mg base 13 "too_few" u8 XE:=(Qci d c a b).box frN
noncomputable abbrev VF:Stmt:=top 58
theorem sc__law_open:FnScope ["rooms","many","used"] yB (Qu VF):=cV
noncomputable def XS:FM:=QM 1
  (QG (Zi 2 (mFn XW (Qc (Z4 V8 (Zb aG) nL qG YF aL) Ql)))
  (Zw (mFn QdU (Qc (Qn JE aR aK) (Qc aL Ql)))))
set_option maxHeartbeats 4000000 in
theorem GT(d:DefAt K mg "_law_open" VF yB)(e:cR)(c:y')(b:Br):Cal P w K mg base 1 "_law_open" yB XS:=by
 refine QK (k:=0) (more:=1) d sc__law_open rfl λf h A a s H E g=>?_;show cY i g;show bC;exact sc__law_open.nd;show bB;show jo8;show c6;show c6;refine Xo J6 ?_ (VH (Nb:=["n","room"]) (cp:=nL) rfl cF cF rfl rfl) ?_ dZ dZ;exact rfl;show kC;show Ad
 show eI
 show f3;show HP;show b9
 show bD;show Pq;show c6;show aA;show cM;show cO;show aA;show cA
noncomputable def Q3:FM:=box frN XS
theorem GK(d:DefAt K mg "_law_open" VF yB)(c:cR)(b:y')(a:Br):x0:=(GT d c b a).box frN
noncomputable abbrev JA:Stmt:=top 62
theorem sc__law_drawn:FnScope ["numbers","many","rooms","feed","pair","n","branches","room"] nU (Qu JA):=cV
noncomputable abbrev J1(a:FM):SM:=(Vi (mMt "list" ZD dB (Qc (Qv 4 a (Qc aG (Qc aL (Qc (Qn JE aR (mFn V4 (Qc (mFn Zs (Qc c5 kE)) Ql))) (Qc aW Ql))))) Ql)))
noncomputable def JJ(a:FM):FM:=QM 4
  (QG (Ja (Qbp (Qy (Qn wEq (mFn JB (Qc aR Ql)) (mFn JB (Qc aG Ql)))) (Qy (Qn wGt (mFn JB (Qc aR Ql)) dA))) (QG (Zi 4 (mFn QaE (Qc (mFn V4 (Qc (Qn wIx (Qn JE (mFn V4 (Qc aY Ql)) aG) (Qv 2 Qm (Qc aW (Qc (Qn JE (mFn JB (Qc aG Ql)) aK) Ql)))) (Qc (Qn wIx (Qn JE (mFn V4 (Qc aY Ql)) aG) (Qv 2 Qm (Qc aW (Qc (Qn JE (mFn JB (Qc aG Ql)) aK) Ql)))) Ql))) Ql)))
  (Zw (mFn Zs (Qc pD (Qc (Qn wIx a' aY) (Qc (Qn wIx a' aK) Ql)))))) QR)
  (QG (Zi 5 (Qn wIx aG (mFn JB (Qc aR Ql))))
  (QG (Zi 6 oB)
  (QG (Ve (YG (Qc (Qv 2 Q3 (Qc aR (Qc aL Ql))) Ql)) (ZP 7)
  (J1 a))
  (Zw (mFn Zs (Qc uJ (Qc c5 (Qc (mFn XA (Qc dB Ql)) Ql)))))))))
set_option maxHeartbeats 4000000 in
theorem UE{k:Nat}{c:FM}(p:1<=k)(d:DefAt K mg "_law_drawn" JA nU)(m:cR)(i:f4)(e:yM)(h:jP)(b:x0)(a:iT)(l:Cal P w K mg base k "_law_drawn" nU c):Cal P w K mg base (k+1) "_law_drawn" nU (JJ c):=by
 refine QK (k:=k) (more:=4) d sc__law_drawn rfl λf o A j s H E g=>?_;show cY n g;show cW;show rK;show cZ n;show dC;show aA;show cA;show dC;show aA;show cA;show tY;show kY;show dC;show aA;show cA;exact Qh;show bC;exact sc__law_drawn.nd;show bB;refine Qw (Qb0 ?_) Qs ?_ ?_ Lh ?_ ?_ ?_ ?_ ?_;exact rfl;show c6;show aA;show dV;show aA;show cX;show cM;show dV;show aA;show fN;exact Qb _;show jH g;show aA;exact Qb _;show aA;show cM;show dC;show aA;show cA;exact Qh;show aU;show aA;show cX;show cM;show dV;show aA;show fN;exact Qb _;show jH g;show aA;exact Qb _;show aA;show cM;show dC;show aA;show cA;exact Qh;show aU;exact Qe;show jJ;show b9
 show bD;show bO;show aA;exact QI;show aA;show aJ;exact Qh;show aA;show aJ;show fN;exact Qz;show bC;exact sc__law_drawn.nd;show bB;show aJ;show dC;show aA;show cA;show b9
 show bC;exact sc__law_drawn.nd;show bB;show o5;show b9
 show iR;show pN;show c6;show aA;show jH g;show aA;exact Qb _;show aA;exact Qb _;show aU;show sK;exact QV sc__law_drawn.nd rfl cG;show fE;show k7;show aA;show jH g;show aA;exact Qb _;show aA;exact Qb _;show aA;show cM;exact Qb _;show dV;show aA;show bO;show aA;exact Qb _;show aA;show eS;exact Qe;show aA;exact Qb _;show aU;exact Qe;exact dG;show bD;show bO;show aA;exact QI;show aA;exact Qb _;show aA;show rG;show c6;show aA;show cA;exact Qe
noncomputable def ZF:Nat->FM
 |0=>QM 4 zJ
 |n+1=>box frN (JJ (ZF n))
theorem Uk(d:DefAt K mg "_law_drawn" JA nU)(g:cR)(f:f4)(c:yM)(e:jP)(b:x0)(a:iT):∀n,Cal P w K mg base (2+n) "_law_drawn" nU (ZF n):=by
 intro n
 induction n with
 |zero=>
  exact QK (k:=1) (more:=4) d sc__law_drawn rfl CN
 |succ n h=>
  exact(UE (k:=2+n) bR d g f c e b a (h)).box frN
noncomputable def ZZ:FM:=ZF 5
theorem Ud(d:DefAt K mg "_law_drawn" JA nU)(g:cR)(f:f4)(c:yM)(e:jP)(b:x0)(a:iT):Cal P w K mg base 7 "_law_drawn" nU ZZ:=Uk d g f c e b a 5
noncomputable abbrev JU:Stmt:=top 63
theorem sc__law_bent:FnScope ["tree","numbers","feed","way","branches","at"] nV (Qu JU):=cV
noncomputable def Zz:SM:=(QG (Ja (Qy (Qn wEq aW aY)) (Zw (mFn Zs (Qc uJ (Qc (Qn wIx aG aK) (Qc (mFn XA (Qc (mSl a' Qa1 (Qay (mUn Yt aK))) Ql)) Ql))))) QR)
  (QG (Ja (Qy (Qn wEq aW aK)) (Zw (mFn Zs (Qc uJ (Qc (Qn wIx aG aK) (Qc (mFn XA (Qc (Qn JE a' (mSl a' (Qay (mUn Yt aK)) Qa1)) Ql)) Ql))))) QR)
  (QG (Ja (Qy (Qn wEq aW dA)) (Zw (mFn Zs (Qc uJ (Qc (Qn wIx aG aK) (Qc (mFn XA (Qc (mFn QgN (Qc a' Ql)) Ql)) Ql))))) QR)
  (QG (Ja (Qy (Qn wEq aW l5)) (Zw (mFn Zs (Qc uJ (Qc (Qn wIx (Qn JE (mFn V4 (Qc (Qn JE (Qn wIx aG aK) aK) Ql)) aL) (Qv 2 Qm (Qc aR (Qc (Qn JE (mFn JB (Qc aL Ql)) aK) Ql)))) (Qc (mFn XA (Qc a' Ql)) Ql))))) QR)
  (Zw (Qn wIx (mFn V4 (Qc aG (Qc (mFn Zs (Qc pD (Qc (Qn wIx aG aK) (Qc (Qn JE (Qn wIx aG aK) aK) Ql)))) Ql))) (Qn Qag aW sE)))))))
noncomputable def Jw(a:FM):FM:=QM 3
  (QG (Zi 3 (Qv 2 Qm (Qc aR (Qc sD Ql))))
  (QG (Ja (Qy (Qn wEq (Qn wIx aG aY) pD)) (Zw (Qn wIx (mFn V4 (Qc (mFn Zs (Qc pD (Qc (Qn wIx aG dA) (Qc (Qn wIx aG aK) Ql)))) (Qc (mFn Zs (Qc pD (Qc (Qn wIx aG aK) (Qc (Qn JE (Qn wIx aG dA) aK) Ql)))) (Qc (mFn Zs (Qc pD (Qc (Qn wIx aG aK) (Qc (Qn wIx aG aK) Ql)))) (Qc (mFn Zs (Qc pD (Qc aY (Qc (Qn wIx aG dA) Ql)))) (Qc aG (Qc (mFn Zs (Qc uJ (Qc (Qn wIx aG aK) (Qc yW Ql)))) Ql))))))) aW)) QR)
  (QG (Zi 4 (mFn Qcq (Qc (Qn wIx aG dA) Ql)))
  (QG (Ja (Vy (Qy (Qn wGt (mFn JB (Qc a' Ql)) aY)) (Qy (Qn wGt (Qv 2 Qm (Qc aR (Qc l5 Ql))) aY))) (QG (Zi 5 (Qv 2 Qm (Qc aR (Qc (mFn JB (Qc a' Ql)) Ql))))
  (QG (Qf6 a' c5 (Qv 3 a (Qc (Qn wIx a' c5) (Qc aL (Qc aR Ql)))))
  (Zw (mFn Zs (Qc uJ (Qc (Qn wIx aG aK) (Qc (mFn XA (Qc a' Ql)) Ql))))))) QR)
  Zz))))
set_option maxHeartbeats 4000000 in
theorem GV{k:Nat}{b:FM}(o:1<=k)(d:DefAt K mg "_law_bent" JU nV)(m:cR)(i:pZ)(c:Hg)(h:jP)(a:iT)(l:Cal P w K mg base k "_law_bent" nV b):Cal P w K mg base (k+1) "_law_bent" nV (Jw b):=by
 refine QK (k:=k) (more:=3) d sc__law_bent rfl λf n A j s H E e=>?_;show cY g e;show bC;exact sc__law_bent.nd;show bB;show jH e;show aA;exact Qb _;show aA;exact Qh;show aU;show b9
 show cW;show cZ g;show aJ;show oC;show bD;show cX;show dV;show aA;show bO;show aA;exact QI;show aA;show aJ;exact Qh;show aA;show aJ;show fN;show aA;show bO;show aA;exact QI;show aA;show aJ;exact Qh;show aA;show cM;show aJ;exact Qh;show fN;show aA;show bO;show aA;exact QI;show aA;show aJ;exact Qh;show aA;show aJ;show fN;show aA;show bO;show aA;exact QI;show aA;exact Qh;show aA;show aJ;show fN;show aA;exact Qb _;show aA;show bO;show aA;exact QI;show aA;show aJ;exact Qh;show aA;show bO;show oD;exact Qe;show Bm;show bC;exact sc__law_bent.nd;show bB;refine Q5 QbU Qs ?_ ?_ DF ?_ ?_ ?_ ?_ ?_;show c6;show aA;show aJ;exact Qh;show jJ;show b9
 show cW;show kU;show kY;show dC;show aA;show cA;exact Qh;show lI;show kY;show jH e;show aA;exact Qb _;show aA;exact Qh;show aU;exact Qh;show bC;exact sc__law_bent.nd;show bB;show jH e;show aA;exact Qb _;show aA;show dC;show aA;show cA;show aU;show b9
 show fX;show uE;show V';show jH e;show aA;show aJ;exact Qb _;show aA;exact Qb _;show aA;exact Qb _;show aU;exact dG;show f3;show bD;show bO;show aA;exact QI;show aA;show aJ;exact Qh;show aA;show rG;show c6;show aA;show cA;show gE;show cW;show cZ g;show cO;show bD;show bO;show aA;exact QI;show aA;show aJ;exact Qh;show aA;show rG;show c6;show aA;show Ay;exact Ku;refine KC ?_;show gI;show jJ;show gE;show cW;show cZ g;show cO;show bD;show bO;show aA;exact QI;show aA;show aJ;exact Qh;show aA;show rG;show c6;show aA;show cM;exact Qb _;show Ay;refine KC ?_;show gI;exact Ku;show jJ;show gE;show cW;show cZ g;show cO;show bD;show bO;show aA;exact QI;show aA;show aJ;exact Qh;show aA;show rG;show c6;show aA;refine QdM ?_ ?_ ?_ ?_ ?_ ?_ ?_;exact rfl;show c6;show c6;show HP;show jJ;show gE;show cW;show cZ g;show cO;show bD;show bO;show aA;exact QI;show aA;show cX;show cM;show dV;show aA;show cM;show aJ;exact Qh;show fN;exact Qb _;show jH e;show aA;exact Qb _;show aA;show cM;show dC;show aA;show cA;exact Qh;show aU;show aA;show rG;show c6;show aA;show cA;show gE;show bD;show cX;show dV;show aA;exact Qb _;show aA;show bO;show aA;exact QI;show aA;show aJ;exact Qh;show aA;show cM;show aJ;exact Qh;show fN;exact Qe;show o3;show cO
noncomputable def VW:Nat->FM
 |0=>QM 3 zJ
 |n+1=>box frN (Jw (VW n))
theorem GY(d:DefAt K mg "_law_bent" JU nV)(f:cR)(e:pZ)(b:Hg)(c:jP)(a:iT):∀n,Cal P w K mg base (2+n) "_law_bent" nV (VW n):=by
 intro n
 induction n with
 |zero=>
  exact QK (k:=1) (more:=3) d sc__law_bent rfl CN
 |succ n g=>
  exact(GV (k:=2+n) bR d f e b c a (g)).box frN
noncomputable def Zj:FM:=VW 10
theorem G1(d:DefAt K mg "_law_bent" JU nV)(f:cR)(e:pZ)(b:Hg)(c:jP)(a:iT):Cal P w K mg base 12 "_law_bent" nV Zj:=GY d f e b c a 10
noncomputable abbrev V0:Stmt:=top 41
theorem sc_is_tree:FnScope ["makers","clashing","many","rooms","tree","couple","n","branches","room","branch","further"] mQ (Qu V0):=cV
noncomputable abbrev JS(a:FM):SM:=(QG (Zi 10 (mFn UF (Qc aW Ql)))
  (QG (QaQ r0 dB j0)
  (Ja (Qbj (Qae (Qv 5 a (Qc aG (Qc aL (Qc aR (Qc r0 (Qc e' Ql)))))))) xJ QR)))
noncomputable def Zv(a:FM):FM:=QM 6
  (QG (Ja (Qy (Qn wEq (Qn wIx a' aY) pD)) (QG (Zi 5 (mFn Zs (Qc (Qn wIx a' aK) (Qc (Qn wIx a' dA) Ql))))
  (Zw (Qky (Qn IO c5 aL) (Qky (Qn Me (Qn wIx c5 aY) aW) (Qn wEq (Qn Qcl aW (Qn wIx c5 aY)) (mMt "dict" Qf7 aW (Qc (Qn wIx c5 aK) Ql))))))) QR)
  (QG (Zi 6 (Qn wIx a' aK))
  (QG (Zi 7 (Qn wIx a' dA))
  (QG (Ja (Qbp (Qy (Qn ze1 dB aG)) (Qbp (Qy (Qn Me dB aW)) (Qy (Qn wNe (mFn JB kE) (Qv 2 QU (Qc (QkE aW) (Qc aR Ql))))))) xJ QR)
  (QG (Ve (UU kE) (ZQ [8,9])
  (JS a))
  (Zw j6))))))
set_option maxHeartbeats 4000000 in
theorem Qbs{k:Nat}{e:FM}(o:1<=k)(d:DefAt K mg "is_tree" V0 mQ)(h:n9)(c:nY)(m:cR)(g:jP)(b:wZ)(l:Cal P w K mg base k "is_tree" mQ e):Cal P w K mg base (k+1) "is_tree" mQ (Zv e):=by
 refine QK (k:=k) (more:=6) d sc_is_tree rfl λf n A i s H E j=>?_;show cY a j;show cW;show cZ a;show aJ;show oC;show bC;show ze7;show bB;show bO;show aA;show aJ;exact Qh;show aA;show aJ;show fN;show b9
 show bD;refine Qja ?_ ?_;refine QcS (Qgw ?_) Qk ?_ ?_;show j4 a;refine Qja ?_ ?_;refine QcS (GX ?_) Qk ?_ ?_;exact a;show aJ;show o9;refine Qom ?_;refine QcS (QP ?_) Qk ?_ ?_;exact a;show R9;show aJ;exact Qh;refine Xi Fv FJ O7 (Qho ?_) ?_ ?_;show vW a;show aA;show aJ;show fN;exact Qz;show bC;show ze7;show bB;show aJ;exact Qh;show b9
 show bC;show ze7;show bB;show aJ;exact Qh;show b9
 show cW;show rK;refine zy3;show j4 a;refine X3 ?_ ?_;refine zy2;show j4 a;show tY;refine CU;exact a;show dC;show aA;show cA;show jH j;show aA;refine Qbm ?_ ?_ ?_ ?_;exact rfl;show c6;exact Qb _;show aA;exact Qb _;show aU;show bD;show zC;show iR;refine Qc8 ?_ ?_ ?_ ?_;show c6;show aA;show eS;exact rfl;show uB;refine QE sc_is_tree.nd rfl cG ?_ ?_;refine QE sc_is_tree.nd rfl cG ?_ ?_;exact Jv
 show eI
 show eI
 show f3;show bC;show ze7;show bB;refine Q5 Qb3 Qs ?_ ?_ Dv ?_ ?_ ?_ ?_ ?_;show c6;show aA;show cA;show b9
 show fX;refine QcW ?_ ?_ ?_ ?_ ?_;show j4 a;show HP;show iC;show Fa;show jH j;show aA;exact Qb _;show aA;exact Qb _;show aA;exact Qb _;show aA;exact Qb _;show aA;exact Qb _;show aU;show bD;show zC;exact dG;show bD;exact JD
noncomputable def Z1:Nat->FM
 |0=>QM 6 zJ
 |n+1=>box frN (Zv (Z1 n))
theorem QbJ(d:DefAt K mg "is_tree" V0 mQ)(e:n9)(b:nY)(f:cR)(c:jP)(a:wZ):∀n,Cal P w K mg base (2+n) "is_tree" mQ (Z1 n):=by
 intro n
 induction n with
 |zero=>
  exact QK (k:=1) (more:=6) d sc_is_tree rfl CN
 |succ n g=>
  exact(Qbs (k:=2+n) bR d e b f c a (g)).box frN
noncomputable def V5:FM:=Z1 10
theorem Qcb(d:DefAt K mg "is_tree" V0 mQ)(e:n9)(b:nY)(f:cR)(c:jP)(a:wZ):Cal P w K mg base 12 "is_tree" mQ V5:=QbJ d e b f c a 10
noncomputable abbrev VI:Stmt:=top 36
theorem sc_shows_few:FnScope ["program","manner","many","tree","makers"] u7 (Qu VI):=cV
noncomputable def XX:FM:=QM 1
  (QG (Zi 4 (Qv 1 QS (Qc aG Ql)))
  (Zw (Qv 5 V5 (Qc a' (Qc (Qv 2 ZL (Qc aG (Qc aL Ql))) (Qc aR (Qc QeM (Qc aW Ql))))))))
set_option maxHeartbeats 4000000 in
theorem GO(d:DefAt K mg "shows_few" VI u7)(a:Cal P w K mg base 8 "checked_makers" cB QS)(c:Af)(b:Cal P w K mg base 12 "is_tree" mQ V5):Cal P w K mg base 13 "shows_few" u7 XX:=by
 refine QK (k:=12) (more:=1) d sc_shows_few rfl λf h A g s H E e=>?_;show cY i e;show bC;exact sc_shows_few.nd;show bB;show bE e;show aU;show b9
 show bD;show bE e;show aA;show bE e;show aA;exact Qb _;show aU;show aA;exact Qb _;show aA;exact QeL;show aA;exact Qb _;show aU
noncomputable def VB:FM:=box frN XX
theorem Gs(d:DefAt K mg "shows_few" VI u7)(a:Cal P w K mg base 8 "checked_makers" cB QS)(c:Af)(b:Cal P w K mg base 12 "is_tree" mQ V5):Cal P w K mg base 13 "shows_few" u7 VB:=(GO d a c b).box frN
noncomputable abbrev Js:Stmt:=top 59
theorem sc__law_shows:FnScope ["numbers","clashing","many","rooms","tree","there","room"] nR (Qu Js):=cV
noncomputable abbrev ZN(a:FM):SM:=(Ja (Qbj (Qae (Qv 5 a (Qc aG (Qc aL (Qc aR (Qc (Qn JE aW (mFn V4 (Qc (mFn Zs (Qc (Qn wIx a' aK) (Qc dB Ql))) Ql))) (Qc (Qn wIx (Qn wIx a' dA) dB) Ql)))))))) xJ QR)
noncomputable def QX(a:FM):FM:=QM 2
  (QG (Zi 5 (mFn KM (Qc aW Ql)))
  (QG (Ja (Qy (Qn wEq (Qn wIx a' aY) pD)) (QG (Ja (Qbp (Qy (Qn ze1 (mFn Zs (Qc (Qn wIx a' aK) (Qc (Qn wIx a' dA) Ql))) aL)) (Qbp (Qy (Qn BE (Qn wIx a' aK) c5)) (Qy (Qn BE (Qn wIx a' dA) c5)))) xJ QR)
  (Zw (Qn wEq (Qn Qcl c5 (Qn wIx a' aK)) (Qn Qcl c5 (Qn wIx a' dA))))) QR)
  (QG (Ja (Qbp (Qy (Qn ze1 (Qn wIx a' aK) aG)) (Qbp (Qy (Qn Me (Qn wIx a' aK) c5)) (Qy (Qn wNe (mFn JB (Qc (Qn wIx a' dA) Ql)) (Qv 2 Q3 (Qc aW (Qc aR Ql))))))) xJ QR)
  (QG (Ve (YG (Qc (mFn JB (Qc (Qn wIx a' dA) Ql)) Ql)) A0
  (ZN a))
  (Zw j6)))))
set_option maxHeartbeats 4000000 in
theorem Us{k:Nat}{c:FM}(n:1<=k)(d:DefAt K mg "_law_shows" Js nR)(g:n9)(l:cR)(e:f4)(b:x0)(j:Cal P w K mg base k "_law_shows" nR c):Cal P w K mg base (k+1) "_law_shows" nR (QX c):=by
 refine QK (k:=k) (more:=2) d sc__law_shows rfl λf m A h s H E i=>?_;show cY a i;show bC;exact sc__law_shows.nd;show bB;show zn1;show c6;show aA;show cA;show b9
 show cW;show cZ a;show aJ;show oC;show cW;show rK;refine zy3;exact a;show bO;show aA;show aJ;exact Qh;show aA;show aJ;show fN;exact Qb _;refine X3 ?_ ?_;refine CY;exact a;show aJ;show o9;show tY;refine CY;exact a;show aJ;show o9;show bD;show zC;show bD;refine QcS (QP ?_) Qk ?_ ?_;exact a;show R9;show aJ;exact Qh;show R9;show aJ;exact Qh;exact Qz;show cW;show rK;refine zy3;exact a;show aJ;show o9;refine X3 ?_ ?_;refine zy2;exact a;show aJ;show o9;show tY;refine CU;exact a;show dC;show aA;show aJ;exact Qh;show jJ;show jH i;show aA;exact Qb _;show aA;exact Qb _;show aU;show bD;show zC;show iR;show pN;show c6;show aA;show dC;show aA;show aJ;exact Qh;show jJ;show sK;exact QV sc__law_shows.nd rfl cG;show iC;show Fa;show jH i;show aA;exact Qb _;show aA;exact Qb _;show aA;exact Qb _;show aA;show cM;exact Qb _;show dV;show aA;show bO;show aA;show aJ;exact Qh;show aA;show eS;exact Qe;show aA;show cX;show aJ;show o9;show aU;show bD;show zC;exact dG;show bD;exact JD
noncomputable def Zf:Nat->FM
 |0=>QM 2 zJ
 |n+1=>box frN (QX (Zf n))
theorem Uv(d:DefAt K mg "_law_shows" Js nR)(c:n9)(e:cR)(b:f4)(a:x0):∀n,Cal P w K mg base (2+n) "_law_shows" nR (Zf n):=by
 intro n
 induction n with
 |zero=>
  exact QK (k:=1) (more:=2) d sc__law_shows rfl CN
 |succ n f=>
  exact(Us (k:=2+n) bR d c e b a (f)).box frN
noncomputable def Vd:FM:=Zf 10
theorem Uw(d:DefAt K mg "_law_shows" Js nR)(c:n9)(e:cR)(b:f4)(a:x0):Cal P w K mg base 12 "_law_shows" nR Vd:=Uv d c e b a 10
noncomputable abbrev QaS:Stmt:=top 64
theorem sc_law:FnScope ["script","k","program","rows","feed","manner","numbers","many","clashing","tree","one","handed","found"] vK (Qu QaS):=cV
noncomputable abbrev Yn:SM:=(QG (Zi 11 (mFn Qg3 (Qc c5 Ql)))
  (QG (Zi 12 (Qv 4 VB (Qc aR (Qc zW (Qc jE (Qc r0 Ql))))))
  (QG (Ja (Qbp (Qbj (Qae (mFn QoK (Qc (Qg 12) (Qc (mC (.ty "bool")) Ql))))) (Qy (Qn wNe zW c5))) xJ QR)
  (Ja (Qy (Qn wNe (Qg 12) (Qv 5 Vd (Qc dB (Qc j0 (Qc jE (Qc sN (Qc r0 Ql)))))))) xJ QR))))
noncomputable abbrev Yk:SM:=(QG (Zi 2 (Qv 2 Jh (Qc (Qv 2 ZS (Qc aG (Qc aL Ql))) (Qc (mFn V4 (Qc dA (Qc l5 (Qc dA (Qc sD Ql))))) Ql))))
  (QG (Zi 3 (Z4 V8 (Zb aR) [nO] iN YF (Qv 1 QY (Qc (Qn wIx aG aK) Ql))))
  (QG (Zi 4 (Qv 2 ZS (Qc aG (Qc (Qn JE aL aK) Ql))))
  (QG (Zi 5 (Qv 2 JM (Qc aR (Qc a' Ql))))
  (QG (Zi 6 (Qv 2 Jo (Qc aR (Qc aW Ql))))
  (Ja (Qy (Qn wLe (mFn JB (Qc dB Ql)) zI0)) (QG (Zi 7 (Qv 2 Qm (Qc a' (Qc sE Ql))))
  (QG (Zi 8 (Qv 2 ZL (Qc aR (Qc c5 Ql))))
  (QG (Zi 9 (Qv 3 XE (Qc aR (Qc c5 kE))))
  (QG (Ja (Qy (Qn wIs e' fB)) (Zi 9 (Qv 4 ZZ (Qc dB (Qc jE (Qc sN (Qc a' Ql)))))) QR)
  (Ve (Zb (mFn V4 (Qc e' (Qc (Qv 3 Zj (Qc e' (Qc dB (Qc a' Ql)))) (Qc (Qv 3 Zj (Qc e' (Qc dB (Qc a' Ql)))) Ql))))) Pc
  Yn))))) QR))))))
noncomputable def Yy:FM:=QM 12
  (QG (Ve (Qi7 (Qc aY (Qc (mFn Ql6 (Qc dA (Qc (mFn QdU (Qc sE (Qc (mFn JB (Qc aG Ql)) Ql))) Ql))) (Qc dA Ql)))) (ZP 1)
  Yk)
  (Zw j6))
set_option maxHeartbeats 4000000 in
theorem Qlq(d:DefAt K mg "law" QaS vK)(p:mg "bool"=nO)(j:mg "isinstance"=nO)(z:cR)(u:pZ)(y:mg "max"=nO)(x:y')(t:f4)(o:Cal P w K mg base 12 "_law_bent" nV Zj)(g:Cal P w K mg base 1 "_law_blocks" vX QY)(i:Cal P w K mg base 7 "_law_drawn" nU ZZ)(n:Cal P w K mg base 1 "_law_feed" uR ZS)(c:Cal P w K mg base 3 "_law_makings" j5 Jo)(e:Cal P w K mg base 2 "_law_manner" uH JM)(b:Cal P w K mg base 4 "_law_program" uL Jh)(h:Cal P w K mg base 12 "_law_shows" nR Vd)(m:iT)(r:Af)(l:Cal P w K mg base 13 "shows_few" u7 VB)(q:Cal P w K mg base 13 "too_few" u8 XE):Cal P w K mg base 14 "law" vK Yy:=by
 refine QK (k:=13) (more:=12) d sc_law rfl λf C A v s H E a=>?_;show cY B a;show iR;refine Qjo ?_ ?_ ?_ ?_ ?_;show c6;show aA;exact Qh;show aA;show zX5;show c6;show aA;exact Qh;show aA;show Pq;show c6;show aA;exact Qh;show aA;show dC;show aA;show cA;show jJ;show jJ;show aA;show fN;show f3;exact QV sc_law.nd rfl cG;show bC;show qT;show bB;show xA;exact a.mono aE;exact rfl;show aA;show bE a;show aA;exact Qb _;show aU;show aA;show dV;show aA;exact Qh;show aA;exact Qh;show aA;exact Qh;show aA;show fN;show aU;show b9
 show fX;refine Qbk sc_law.nd rfl cG ?_ J6 ?_ (VH (Nb:=["part"]) (cp:=[nO]) rfl cF cF rfl rfl) ?_ dZ dZ ?_ ?_
 show eI
 exact rfl;show kC;exact QV nT rfl cG;show xA;exact a.mono aE;exact rfl;show aA;show aJ;exact Qh;show aU;exact dG;exact rfl;show bC;show qT;show bB;show bE a;show aA;show cM;show cO;show aU;show b9
 show bC;show qT;show bB;show bE a;show aA;exact Qb _;show aU;show b9
 show bC;show qT;show bB;show bE a;show aA;exact Qb _;show aU;show b9
 show iC;refine Qr Qnf Qk ?_ ?_;show dC;show aA;show cA;exact Qh;show bC;show qT;show bB;show bE a;show aA;exact Qh;show aU;show b9
 show bC;show qT;show bB;show bE a;show aA;exact Qb _;show aU;show b9
 show bC;show qT;show bB;show bE a;show aA;exact Qb _;show aA;exact Qb _;show aU;show b9
 show cW;refine Qr QiY Qk ?_ ?_;show ze6;show xD;show qT;show bB;show bE a;show aA;exact Qb _;show aA;show dV;exact Qe;show aA;exact Qb _;show aU;show b9
 exact Qz;show Ag;refine Z9 ?_;show dV;show aA;exact Qb _;show aA;show bE a;show aA;exact Qb _;show aA;exact Qb _;show aU;show aA;show bE a;show aA;exact Qb _;show aA;exact Qb _;show aU;exact Qe;exact QV sc_law.nd rfl cG;show bC;show qT;show bB;refine Q5 QdF Qs ?_ ?_ DF ?_ ?_ ?_ ?_ ?_;show c6;show aA;show cA;show b9
 show bC;show qT;show bB;show bE a;show aA;exact Qb _;show aA;exact Qb _;show aA;exact Qb _;show aU;show b9
 show cW;show rK;show Fa;refine Qw QfV Qs ?_ ?_ PyProof.Rows.boot_isinstance ?_ ?_ ?_ ?_ ?_;show c6;show aA;exact Qb _;show aA;exact Qo5 rfl p PyProof.Rows.boot_bool;show jJ;show tY;refine CU;show j4 B;show bD;show zC;show iC;refine CU;show vW B;show bE a;show aA;exact Qb _;show aA;exact Qb _;show aA;show dV;exact Qe;show aA;exact Qb _;show aU;show bD;show zC;exact dG;exact Qz;exact dG;show bD;exact JD
#print "-"
theorem QkK{P:Program}{w:World}{K:Ng}{a:eK}{base:Heap}(ax:DefAt K a "_law_take" Vv jO)(ah:DefAt K a "_law_names" Z2 jO)(D:DefAt K a "_law_step_on" Jm pG)(af:DefAt K a "_law_plain" J2 rN)(ay:DefAt K a "_law_part" Vr rF)(E:DefAt K a "_law_program" Je uL)(a2:DefAt K a "_law_feed" Vx uR)(ab:DefAt K a "_law_words" J7 cB)(O:DefAt K a "_law_manner" Z6 uH)(a0:DefAt K a "_law_next" Vu rL)(be:DefAt K a "_law_all" Xd j5)(a1:DefAt K a "_law_made" Vs eF)(F:DefAt K a "_law_makings" ZO j5)(Q:DefAt K a "_law_blocks" JK vX)(aa:DefAt K a "first_spot" JZ [])(bj:DefAt K a "line_of" Xz eF)(bz:DefAt K a "at_gap" Ki gZ)(bp:DefAt K a "at_head" XB gZ)(A:DefAt K a "level_change" Jp jA)(bn:DefAt K a "head_of" XC eT)(C:DefAt K a "found_behind" Jf xN)(b1:DefAt K a "or_of" Yj eT)(bx:DefAt K a "end_of" Kg eT)(y:DefAt K a "next_in_part" Jn rX)(aw:DefAt K a "behind_do" VE jB)(N:DefAt K a "part_number" JH pH)(Y:DefAt K a "next_spots" J9 eF)(b0:DefAt K a "spots" Yr cB)(bd:DefAt K a "place_of" Xa jB)(bc:DefAt K a "steps_of" Xh cB)(av:DefAt K a "made_word" Vq jA)(z:DefAt K a "making_spots" ZJ cB)(B:DefAt K a "giving_spots" Zu rH)(bi:DefAt K a "reached" XI rM)(bo:DefAt K a "clashes" Xv xO)(p:DefAt K a "checked_makers" ZM cB)(Z:DefAt K a "last_clash" J3 p9)(X:DefAt K a "open_rooms" Vb uO)(b2:DefAt K a "cases" Kw mT)(bh:DefAt K a "too_few" XD u8)(az:DefAt K a "_law_open" VF yB)(ai:DefAt K a "_law_drawn" JA nU)(a3:DefAt K a "_law_bent" JU nV)(bm:DefAt K a "is_tree" V0 mQ)(au:DefAt K a "shows_few" VI u7)(ae:DefAt K a "_law_shows" Js nR)(b7:DefAt K a "law" QaS vK)(M:Glob K a "MOST_MAKERS" Z7)(b6:a "bool"=nO)(t:a "dict"=nO)(e:a "enumerate"=nO)(aq:a "isinstance"=nO)(b:a "len"=nO)(s:a "list"=nO)(b5:a "max"=nO)(bb:a "min"=nO)(d:a "range"=nO)(x:a "reversed"=nO)(bw:a "set"=nO)(u:a "sorted"=nO)(g:a "tuple"=nO):Cal P w K a base 14 "law" vK Yy:=by
 have c:Cal P w K a base 1 "_law_take" jO Qm:=GS ax;have ao:Cal P w K a base 2 "_law_names" jO Zy:=UC ah d c;have I:Cal P w K a base 1 "_law_step_on" pG QW:=YU D;have an:Cal P w K a base 2 "_law_plain" rN Jz:=Uj af b c;have a6:Cal P w K a base 3 "_law_part" rF Jl:=Gm ay b d g an I c;have J:Cal P w K a base 4 "_law_program" uL Jh:=Y4 E b d g ao a6 c;have a9:Cal P w K a base 1 "_law_feed" uR ZS:=Gi a2 b;have al:Cal P w K a base 1 "_law_words" cB ZY:=Ue ab bw u;have T:Cal P w K a base 2 "_law_manner" uH JM:=WU O e b d c al;have a7:Cal P w K a base 1 "_law_next" rL ZU:=Qab a0 b;have bg:Cal P w K a base 2 "_law_all" j5 JR:=Qbc be b s a7;have a8:Cal P w K a base 1 "_law_made" eF ZV:=G5 a1 b;have L:Cal P w K a base 3 "_law_makings" j5 Jo:=YY F b d bg a8;have U:Cal P w K a base 1 "_law_blocks" vX QY:=WS Q b d;have ak:Cal P w K a base 1 "first_spot" [] Jt:=Ur aa;have n:Cal P w K a base 1 "line_of" eF QT:=QbM bj b;have as:Cal P w K a base 1 "at_gap" gZ ZK:=QdC bz;have bv:Cal P w K a base 1 "at_head" gZ Vm:=QbZ bp;have i:Cal P w K a base 1 "level_change" jA Q9:=YX A;have bu:Cal P w K a base 2 "head_of" eT JW:=Qcc bn d i;have j:Cal P w K a base 2 "found_behind" xN QQ:=Y9 C b d i;have b3:Cal P w K a base 3 "or_of" eT XN:=Qgq b1 j;have ar:Cal P w K a base 3 "end_of" eT Jk:=Qdo bx j;have G:Cal P w K a base 4 "next_in_part" rX Zq:=YW y as bv ar bu b3;have a5:Cal P w K a base 1 "behind_do" jB Ji:=G3 aw;have S:Cal P w K a base 1 "part_number" pH ZG:=W3 N;have m:Cal P w K a base 5 "next_spots" eF QJ:=Ul Y as a5 ar n G S;have R:Cal P w K a base 6 "spots" cB Zn:=QeJ b0 s x ak m;have v:Cal P w K a base 1 "place_of" jB Zp:=QaR bd;have bf:Cal P w K a base 7 "steps_of" cB Vg:=QaG bc t e n m v R;have q:Cal P w K a base 1 "made_word" jA Q4:=GL av;have h:Cal P w K a base 7 "making_spots" cB Q8:=Y2 z e n q R;have H:Cal P w K a base 7 "giving_spots" rH ZI:=Y0 B t e v R;have br:Cal P w K a base 1 "reached" rM V2:=Qb7 bi t s;have o:Cal P w K a base 8 "clashes" xO ZL:=QbW bo b5 bb u H q h br bf;have f:Cal P w K a base 8 "checked_makers" cB QS:=Yd p M b h;have aj:Cal P w K a base 1 "last_clash" p9 Z0:=Uo Z b d;have l:Cal P w K a base 1 "open_rooms" uO QU:=Uy X b bb bw;have b4:Cal P w K a base 12 "cases" mT Kx:=Qfe b2 b d g aj l;have bq:Cal P w K a base 13 "too_few" u8 XE:=QbI bh b4 f o;have r:Cal P w K a base 1 "_law_open" yB Q3:=GK az b bb bw;have ap:Cal P w K a base 7 "_law_drawn" nU ZZ:=Ud ai b d u g r c;have ba:Cal P w K a base 12 "_law_bent" nV Zj:=G1 a3 b s x g c;have bt:Cal P w K a base 12 "is_tree" mQ V5:=Qcb bm t e b g l;have a4:Cal P w K a base 13 "shows_few" u7 VB:=Gs au f o bt;have am:Cal P w K a base 12 "_law_shows" nR Vd:=Uw ae t b d r;have b8:Cal P w K a base 14 "law" vK Yy:=Qlq b7 b6 aq b s b5 bb d ba U ap a9 L T J am c o a4 bq;exact b8
#print "-My"
namespace My3
inductive Cd where
 |ei|ag|oo|en|ot
 deriving DecidableEq
structure En where
 kd:Cd
 fs:Nat
 md:Nat
noncomputable def ch:Cd->Int
 |.ei=>1
 |.ag=>1
 |.en=>-1
 |_=>0
noncomputable def lev(ls:g8):zQ
 |0=>0
 |k+1=>jY k+(match lK with|dY c=>ch c|none=>0)
noncomputable def stp(k:Nat)(c:Cd)(st:lG):Option (List En):=match c with
 |.ei=>sO (⟨.ei,k,0⟩::st)
 |.ag=>sO (⟨.ag,k,0⟩::st)
 |.oo=>match st with
  |e::r=>if B' then sO (⟨.oo,e.fs,k⟩::r)else nO
  |[]=>nO
 |.en=>match st with
  |e::r=>if B' then nO else sO r
  |[]=>nO
 |.ot=>sO st
theorem VT(e:lK=sO c):HX=jY k+ch c:=by
 simp only[lev,e]
structure Fit(ls:g8)(k t:Nat)(e:En):Prop where
 lt:e.fs<k
 at_:zj6=A7\/zj6=sO .ag
 lv:sG e+t=jY k
 ge:∀j,e.fs<j->j<=k->sG e<=jY j
 kd:B'\/e.kd=.ag\/oQ
 ei:B'->∀j,e.fs<j->j<k->jY j=sG e->kN≠sO .oo
 oo:oQ->e.fs<e.md/\e.md<k/\ls[e.md]?=sO .oo/\lev ls e.md=sG e/\∀j,e.fs<j->j<e.md->jY j=sG e->kN≠sO .oo
noncomputable def QiZ(ls:g8)(k:Nat):Nat->lG->Prop
 |_,[]=>True
 |t,e::r=>Fit ls k t e/\QiZ ls k (t+1) r
structure Mat(ls:g8)(k:Nat)(e:En):Prop where
 fit:Fit ls k 0 e
 en:lK=sO .en
 kd:e.kd=.ag\/oQ
theorem Qiq{k t t':Nat}(l:lK=sO c)(h:Fit ls k t e)(u:(t':Int)=t+ch c)(n:c=.oo->0<t):Fit ls (k+1) t' e:=by
 have v:=VT l;have o:=h.lv;have g:=h.lt;refine⟨by exact Ni g cJ,h.at_,aQ,aM j i r,h.kd,λq j i r p=>?_,k3 q⟩
 ·by_cases z:j<=k
  ·exact h.ge j i z
  ·have:j=k+1:=aQ
   subst this;lia
 ·by_cases z:j<k
  ·exact h.ei q j i z p
  ·have:j=k:=aQ
   subst this;rw[l];intro w;have m:c=.oo:=cN w
   have:=n m;omega
 ·obtain⟨a,b,s,d,f⟩:=h.oo q;exact⟨a,by exact Ni b cJ,s,d,f⟩
theorem Kl(f:lK=sO c):∀(r:lG) (t t':Nat),QiZ ls k t r->(t':Int)=t+ch c->(c=.oo->0<t)->QiZ ls (k+1) t' r:=by
 intro r
 induction r with
 |nil=>
  intro _ _ _ _ _;exact True.intro
 |cons e r a=>
  intro t t' h b d;exact⟨Qiq f h.1 b d,a (t+1) (t'+1) h.2 (by push_cast;lia) λ_=>by exact Fh _⟩
theorem Qhc{ls:g8}{k:Nat}{c:Cd}{st g:lG}(d:lK=sO c)(h:QiZ ls k 0 st)(e:stp k c st=sO g):QiZ ls (k+1) 0 g:=by
 have s:=VT d
 have new:∀f:Cd,(f=.ei\/f=.ag)->c=f->Fit ls (k+1) 0 ⟨f,k,0⟩:=λf n e=>by
  refine⟨aP,?_,aP,aM j m t,by show zL2 n,eE q j m t,k3 q⟩
  ·rw[d,e];show zL2 n
  ·have o:k<j:=m;have:j=k+1:=aQ
   subst this;exact DM _
  ·have o:k<j:=m;lia
  ·have p:f=.oo:=q
   show CI n z p
 cases c with
 |ei=>cases e;exact⟨new _ fA rfl,Kl d st 0 1 h HB aB⟩
 |ag=>cases e;exact⟨new _ vF rfl,Kl d st 0 1 h HB aB⟩
 |ot=>cases e;exact Kl d st 0 0 h HB aB
 | oo=>
  cases st with
  |nil=>cases e
  | cons a r=>
   show CK
   ·show g6 u e;have l:=h.1;have b:=l.lv;have i:=l.lt;refine⟨⟨by show a.fs<k+1;exact Ni i cJ,l.at_,?_,aM j m t,.inr vF,λq=>(by cases q),λ_=>⟨i,N6 _,d,?_,l.ei u⟩⟩,Kl d r 1 1 h.2 HB aB⟩
    ·show sG a+pV=HX;rw[s];simp[ch];simp at b;exact b
    ·by_cases z:j<=k
     ·exact l.ge j m z
     ·have:j=k+1:=aQ
      subst this;show sG a<=_;rw[s];simp[ch];simp at b;exact Il b
    ·show jY k=sG a;simp at b;exact b.symm
   ·cases e
 | en=>
  cases st with
  |nil=>cases e
  |cons a r=>
   show CK
   ·cases e
   ·cases e;exact Kl d _ 1 0 h.2 HB aB
theorem Qj4(c:lK=sO .en)(h:QiZ ls k 0 (a::r))(e:stp k .en (a::r)=sO b):Mat ls k a:=by
 show CK
 ·cases e
 ·rename_i d;refine⟨h.1,c,?_⟩
  rcases h.1.kd with z|z|z
  ·exact absurd z d
  ·exact eH z
  ·exact k6 z
structure Beh(ls:g8)(k:Nat)(c:Cd)(j:Nat):Prop where
 lt:k<j
 at_:kN=sO c
 lv:jY j=HX
 no:∀i,k<i->i<j->jY i=HX->ls[i]?≠sO c
 ge:∀i,k<i->i<=j->HX<=jY i
structure Ahd(ls:g8)(k j:Nat):Prop where
 lt:j<k
 lv:jY k=jY j+1
 no:∀i,j<i->i<k->jY k≠jY i+1
 ge:∀i,j<i->i<=k->jY k<=jY i
theorem QkT(m:zg5):Beh ls e.fs .en k:=by
 have h:=m.fit;refine⟨h.lt,m.en,by have:=h.lv;show iZ;exact Ld (Il this.symm) (Il this),λi b a c q=>?_,h.ge⟩;have:=VT q;have g:=h.ge (i+1) (Ni b cJ) a;simp[ch]at this;lia
theorem QgY(m:zg5):Ahd ls k e.fs:=by
 have h:=m.fit;have a:=h.lv
 have f:sG e=lev ls e.fs+1:=by
  rcases h.at_ with q|q<;>exact VT q
 refine⟨h.lt,by simp at a;lia,eE i c b d,λi c b=>by have g:=h.ge i c b;simp at a;exact Fj (Il a.symm) g⟩;have g:=h.ge i c (Nw b);simp at a;lia
theorem Qoc(m:zg5)(g:oQ):Beh ls e.fs .oo e.md:=by
 obtain⟨a,b,c,d,f⟩:=m.fit.oo g;exact⟨a,c,d,f,λi j h=>m.fit.ge i j (Nw (Np h b))⟩
theorem Qfx(m:zg5)(p:oQ):Beh ls e.md .en k:=by
 obtain⟨a,b,c,d,f⟩:=m.fit.oo p;have h:=m.fit;have j:=h.lv;have o:=VT c;simp[ch]at o;simp at j;refine⟨b,m.en,aQ,λi n l s q=>?_,λi n l=>by have g:=h.ge i (NT a n) l;exact Fj (Fj (Il o) (Il d)) g⟩;have r:=VT q;have g:=h.ge (i+1) (Ni (NT a n) cJ) l;simp[ch]at r;lia
#print "-My3"
namespace My4
open My3
noncomputable def pil(ls:g8):Nat->Option (List En)
 |0=>sO []
 |k+1=>(pil ls k).bind λst=>match lK with|dY c=>stp k c st|none=>nO
structure Bk where
 trs:List (Nat×hF)
 st:aZ
 rws:lT
noncomputable def top(b:Bk)(f:Nat×hF->Nat×hF):List (Nat×hF):=match b.st with
 |t::_=>b.trs.modify t f
 |[]=>b.trs
noncomputable def bst(k:Nat)(c:Cd)(b:Bk):Bk:=match c with
 |.ei=>zl1
 |.ag=>zl1
 |.oo=>⟨top b Sx,b.st,zy4⟩
 |.en=>⟨top b EQ,b.st.tail,zy4⟩
 |.ot=>⟨b.trs,b.st,zy4⟩
noncomputable def bks(ls:g8):Nat->Bk
 |0=>TB
 |k+1=>match lK with|dY c=>bst k c (bks ls k)|none=>bks ls k
def Kd(ls:g8)(e:En):Prop:=(e.kd=.ag/\zj6=sO .ag)\/((B'\/oQ)/\zj6=A7)
inductive Op(ls:g8)(trs:List (Nat×hF)):aZ->lG->Prop where
 |nil:Op ls trs [] []
 |cons {t:Nat} {e:En} {st:aZ} {p:lG} (x:∃md en,trs[t]?=sO (e.fs,md,en)/\(oQ->md=e.md)) (k:Kd ls e) (n:t∉st) (r:Op ls trs st p):Op ls trs (t::st) (e::p)
structure Cl(ls:g8)(fs md en:Nat)(e:En):Prop where
 m:Mat ls en e
 f:e.fs=fs
 d:oQ->e.md=md
 k:Kd ls e
structure BI(ls:g8)(k:Nat)(b:Bk)(p:lG):Prop where
 len:b.rws.length=k
 op:Op ls b.trs b.st p
 cl:∀t x,nC=sO x->t∉b.st->∃e,Cl ls x.1 x.2.1 x.2.2 e
 ei:∀j,j<k->(kN=A7\/kN=sO .ag)->∃t md en,xU/\nC=sO (j,md,en)
 oo:∀j,j<k->kN=sO .oo->∃t fs en,xU/\nC=sO (fs,j,en)/\ls[fs]?=A7/\∀i:Nat,b.st[i]?=sO t->∃e:En,p[i]?=sO e/\oQ
 en:∀j,j<k->kN=sO .en->∃t fs md,xU/\nC=sO (fs,md,j)/\t∉b.st
theorem Op.lt{ls:g8}{a:List (Nat×hF)}{st:aZ}{p:lG}(h:Op ls a st p):∀t∈st,t<a.length:=by
 induction h with
 |nil=>show tK t b
 |cons x k n r c=>
  intro t b
  show kD b
  ·obtain⟨d,en,e,_⟩:=x;exact(Nd.mp e).1
  ·exact c t b
theorem Op.imp{ls:g8}{b a:List (Nat×hF)}{st:aZ}{p:lG}(h:Op ls b st p)(q:∀t∈st,a[t]?=b[t]?):Op ls a st p:=by
 induction h with
 |nil=>exact .nil
 |cons x k n r c=>exact .cons (by rw[q _ NF];exact x) k n (c (jT t d q))
theorem QcU(h:t<l.length):(l++[x])[t]?=l[t]?:=NJ h
theorem YS{l:cE a}(h:l[t]?=sO x):t<l.length:=bX h
theorem JQ(a:l.length=k)(b:j<k)(h:l[j]?=sO y):(l++[x])[j]?=sO y:=by rw[QcU (Ni b (cL a))];exact h
theorem QbG(a:l.length=k):(l++[x])[k]?=sO x:=by subst a;simp
theorem Qi0{l:List (Nat×hF)}(h:t≠s):(l.modify t f)[s]?=l[s]?:=by
 rw[Lf];simp[h]
theorem QiM{l:List (Nat×hF)}(h:l[t]?=sO x):(l.modify t f)[t]?=sO (f x):=by
 rw[Lf,h];simp
theorem Qjx {p R:lG} (h:BI ls k b p) (hf:QiZ ls k 0 p) (F:lK=sO c) (e:stp k c p=sO R):BI ls (k+1) (bst k c b) R:=by
 have old:∀j,j<k+1->j≠k->j<k:=λj a b=>aQ
 have P:(c=.ei\/c=.ag)->R=⟨c,k,0⟩::p->BI ls (k+1) zl1 R:=λS hp=>by
  subst hp;have hn:b.trs.length∉b.st:=λz=>EA _ (h.op.lt _ z);have keep:∀t x,nC=sO x->(b.trs++[(k,k,k)])[t]?=sO x:=λt x z=>by rw[QcU (YS z)];exact z
  refine⟨by simp[h.len],.cons ⟨k,k,aP,k3 z⟩ ?_ hn (h.op.imp λt G=>QcU (h.op.lt t G)),eE t x I N,aM j f d,aM j f d,aM j f d⟩
  ·show CI S B z
  ·unfold Kd
   show hZ S B
   ·exact .inr ⟨eH B,by rw[F,B]⟩
   ·exact .inl ⟨B,by rw[F,B]⟩
  ·have G:t≠b.trs.length:=λz=>yF N z;have Y:t<b.trs.length:=by have:=YS I;show iZ;lia
   rw[QcU Y]at I;exact h.cl t x I λz=>N (NA _ z)
  ·show oO
   ·subst z;exact⟨b.trs.length,j,j,QbG h.len,aP⟩
   ·obtain⟨t,E,en,o,l⟩:=h.ei j m8 d;exact⟨t,E,en,mW,keep _ _ l⟩
  ·show oO
   ·subst z;rw[F]at d;show CI S B d
   ·obtain⟨t,fs,en,o,l,v,O⟩:=h.oo j m8 d;refine⟨t,fs,en,mW,keep _ _ l,v,bG i C⟩;cases i with
    |zero=>simp at C;have:=YS l;lia
    |succ i=>simp at C;obtain⟨e,L,J⟩:=O i C;exact⟨e,cN L,J⟩
  ·show oO
   ·subst z;rw[F]at d;show CI S B d
   ·obtain⟨t,fs,E,o,l,v⟩:=h.en j m8 d;refine⟨t,fs,E,mW,keep _ _ l,k3 q⟩
    rcases NM.mp q with q|q
    ·have:=YS l;exact FU (cL q) this
    ·exact v q
 cases c with
 |ei=>exact P fA (by cases e;rfl)
 |ag=>exact P vF (by cases e;rfl)
 | ot=>
  cases e;refine⟨zA1,h.op,h.cl,aM j f d,aM j f d,aM j f d⟩
  ·show zl6
   ·obtain⟨t,E,en,o,l⟩:=h.ei j m8 d;exact⟨t,E,en,mW,l⟩
  ·show oO
   ·subst z;show bK F d
   ·obtain⟨t,fs,en,o,l,v⟩:=h.oo j m8 d;exact⟨t,fs,en,mW,l,v⟩
  ·show oO
   ·subst z;show bK F d
   ·obtain⟨t,fs,E,o,l,v⟩:=h.en j m8 d;exact⟨t,fs,E,mW,l,v⟩
 | oo=>
  cases p with
  |nil=>cases e
  | cons a r=>
   show CK
   ·show zY6;cases M with
    | @cons t _ st _ x X n q=>
     show jo9
     have Q:ls[a.fs]?=A7:=by
      show hZ X z
      ·rw[ha]at z;cases z.1
      ·exact z.2
     have g:∀s,s≠t->(u.modify t Sx)[s]?=u[s]?:=λs m=>Qi0 (EI m);have w:(u.modify t Sx)[t]?=sO (a.fs,k,en):=QiM G;refine⟨zA1,?_,eE s x I N,aM j f d,aM j f d,aM j f d⟩
     ·exact .cons ⟨k,en,w,dG⟩ (.inr ⟨No,Q⟩) n (q.imp jp0)
     ·have Z:s≠t:=λz=>yF N z;have D:u[s]?=sO x:=by rw[<-g s Z];exact I
      exact h.cl s x D N
     ·show zl6
      ·obtain⟨s,y,A,o,l⟩:=h.ei j m8 d
       by_cases m:s=t
       ·subst m;show bK G l;exact⟨s,k,en,zu9,w⟩
       ·exact⟨s,y,A,mW,B2⟩
     ·show oO
      ·rw[z];refine⟨t,a.fs,en,QbG h.len,w,Q,bG i C⟩;cases i with
       |zero=>exact⟨_,rfl,rfl⟩
       |succ i=>simp[bst]at C;exact absurd (j7 i C) n
      ·obtain⟨s,fs,A,o,l,v,O⟩:=h.oo j m8 d
       by_cases m:s=t
       ·subst m;obtain⟨T,L,J⟩:=O 0 aB;show hX L;rw[ha]at J;cases J
       ·refine⟨s,fs,A,mW,B2,v,bG i C⟩;obtain⟨T,L,J⟩:=O i C;cases i with
        |zero=>simp[bst]at C;exact absurd C.symm m
        |succ i=>exact⟨T,cN L,J⟩
     ·show oO
      ·subst z;show bK F d
      ·obtain⟨s,fs,y,o,l,v⟩:=h.en j m8 d;have m:s≠t:=λz=>yF v z;exact⟨s,fs,y,mW,B2,v⟩
   ·cases e
 | en=>
  cases p with
  |nil=>cases e
  | cons a r=>
   have aa:=Qj4 F hf e;show CK
   ·cases e
   ·show zY6;cases M with
    | @cons t _ st _ x X n q=>
     show jo9;have g:∀s,s≠t->(u.modify t EQ)[s]?=u[s]?:=λs m=>Qi0 (EI m);have w:(u.modify t EQ)[t]?=sO (a.fs,E,k):=QiM G;refine⟨zA1,?_,eE s x I N,aM j f d,aM j f d,aM j f d⟩
     ·exact q.imp jp0
     ·by_cases m:s=t
      ·subst m;have D:(u.modify s EQ)[s]?=sO x:=I;show bK w D;exact⟨a,aa,rfl,λz=>(H z).symm,X⟩
      ·have D:u[s]?=sO x:=by rw[<-g s m];exact I
       exact h.cl s x D λz=>by
        rcases NM.mp z with z|z
        ·exact m z
        ·exact N z
     ·show zl6
      ·obtain⟨s,y,A,o,l⟩:=h.ei j m8 d
       by_cases m:s=t
       ·subst m;show bK G l;exact⟨s,E,k,zu9,w⟩
       ·exact⟨s,y,A,mW,B2⟩
     ·show oO
      ·subst z;show bK F d
      ·obtain⟨s,fs,A,o,l,v,O⟩:=h.oo j m8 d
       by_cases m:s=t
       ·subst m;show bK G l;exact⟨s,a.fs,k,zu9,w,v,λi C=>absurd (j7 i C) n⟩
       ·refine⟨s,fs,A,mW,B2,v,bG i C⟩;obtain⟨T,L,J⟩:=O (i+1) (by simpa[bst]using C);exact⟨T,cN L,J⟩
     ·show oO
      ·rw[z];exact⟨t,a.fs,E,QbG h.len,w,n⟩
      ·obtain⟨s,fs,y,o,l,v⟩:=h.en j m8 d;have m:s≠t:=λz=>yF v z;exact⟨s,fs,y,mW,B2,λz=>v (NA _ z)⟩
theorem Qc0:∀{k:Nat} {p:lG},pil ls k=sO p->QiZ ls k 0 p/\BI ls k (bks ls k) p:=by
 intro k
 induction k with
 |zero=>
  intro p e;cases e;exact⟨True.intro,⟨rfl,.nil,λt x h=>by simp[bks]at h,λj h=>aQ,λj h=>cC,λj h=>cC⟩⟩
 | succ k g=>
  intro p e;show dJ q i d e;obtain⟨f,b⟩:=g i;cases a:lK with
  |none=>show bK a d
  |some c=>
   rw[a]at d;refine⟨Qhc a f d,?_⟩;have:bks ls (k+1)=bst k c (bks ls k):=by simp only[bks,a]
   rw[this];exact Qjx b f a d
def Bal(ls:g8):Prop:=pil ls ls.length=sO []
structure Found(ls:g8)(b:Bk):Prop where
 len:b.rws.length=ls.length
 ei:∀j,kN=A7->∃t md en,xU/\nC=sO (j,md,en)/\Beh ls j .oo md
 ag:∀j,kN=sO .ag->∃t md en,xU/\nC=sO (j,md,en)/\Beh ls j .en en
 oo:∀j,kN=sO .oo->∃t fs en,xU/\nC=sO (fs,j,en)/\Beh ls j .en en
 en:∀j,kN=sO .en->∃t fs md,xU/\nC=sO (fs,md,j)/\Ahd ls j fs/\(ls[fs]?=A7\/ls[fs]?=sO .ag)
theorem Qaw(h:Bal ls):Found ls (bks ls ls.length):=by
 obtain⟨_,b⟩:=Qc0 h
 have o:zv9=[]:=by
  have:=b.op;generalize zv9=s at this;cases this;rfl
 have nm:∀t,t∉zv9:=λt=>vE o
 refine⟨b.len,bG j a,bG j a,bG j a,bG j a⟩
 ·obtain⟨t,i,en,g,c⟩:=b.ei j (YS a) (iQ a);obtain⟨e,m,f,d,l⟩:=SJ;show zh7
  have n:oQ:=by
   show hZ l z
   ·rw[f,a]at z;cases z.2
   ·show zQ7
    ·exact q
  refine⟨t,i,en,g,c,?_⟩;have:=Qoc m n;rw[f,d n]at this;exact this
 ·obtain⟨t,i,en,g,c⟩:=b.ei j (YS a) (.inr a);obtain⟨e,m,f,d,l⟩:=SJ;show zh7;refine⟨t,i,en,g,c,?_⟩;have:=QkT m;show zL3
 ·obtain⟨t,fs,en,g,c,p,_⟩:=b.oo j (YS a) a;obtain⟨e,m,f,d,l⟩:=SJ;show zh7
  have n:oQ:=by
   show hZ l z
   ·rw[f,p]at z;cases z.2
   ·show zQ7
    ·exact q
  refine⟨t,fs,en,g,c,?_⟩;have:=Qfx m n;rw[d n]at this;exact this
 ·obtain⟨t,fs,i,g,c,_⟩:=b.en j (YS a) a;obtain⟨e,m,f,d,l⟩:=SJ;show zh7;refine⟨t,fs,i,g,c,?_,?_⟩
  ·have:=QgY m;show zL3
  ·have:=m.fit.at_;show zL3
#print "-My4"
namespace My
open L2 Mi My3 My4
theorem GA(f:Fd)(m:Int):∃p:Int×Fd,(0<m->0<=p.1/\p.1<m)/\(0<m->m<1000000->∀(h:MH) (n:Nat),k'->Qm [aF n,aC m] h=sO (tZ p,h.set n (QO p.2))):=by
 show fT a b j f
 by_cases h:0<a
 ·refine⟨(a%m,⟨a/m,b,j⟩),ji2,λc i g n e=>Kk (o:=QO ⟨a,b,j⟩) (g:=[]) aB e uU ?_ rfl ⟨_,rfl,aP⟩⟩;have d:m<1073741824:=aQ
  simp[VU,QM,h,c,d,QO]
 ·refine⟨(jn0/8191%m,⟨a,jn0,DB _ aE,Int.lt_trans (DR _ aE) aE⟩),ji2,λc i g n e=>Kk (o:=QO ⟨a,b,j⟩) (g:=[]) aB e uU ?_ rfl ⟨_,rfl,aP⟩⟩;have d:m<1073741824:=cC
  simp[VU,QM,h,c,d,QO]
noncomputable def tk(f:Fd)(m:Int):Int:=(Classical.choose (GA f m)).1
noncomputable def tf(f:Fd)(m:Int):Fd:=(Classical.choose (GA f m)).2
theorem Yx(a:0<m):0<=tk f m/\tk f m<m:=(O9 (GA f m)).1 a
theorem GZ(c:0<m)(a:m<1000000)(b:k'):Qm [aF n,aC m] h=sO (.int (tk f m),h.set n (QO (tf f m))):=(O9 (GA f m)).2 c a h n b
@[simp]theorem X7(d:0<m)(a:m<1000000)(c:QoM h n):Qm [aF n,aC m] h=sO (.int (tk (Qff h n) m),h.set n (QO (tf (Qff h n) m))):=by
 show lO f b c;rw[QcG b];exact GZ d a b
noncomputable abbrev abc:Str:="abcdefghijklmnopqrstuvwxyz"
theorem QbY(x:Str)(n:Int):(rep x n).length=n.toNat*x.length:=by unfold rep Str.length;simp
theorem Qb9(x y:Str):(x++y).length=x.length+y.length:=by show(x.cps++y.cps).size=_;simp[Str.length]
theorem QjT:abc.length=26:=lU
noncomputable def ltr(i:Int):Str:=⟨#[97+i.toNat]⟩
theorem QlX:abc.cps.toList=(List.range 26).map (97+·):=lU
@[simp]theorem Qkq:(ltr i).length=1:=rfl
@[simp]theorem Qrk(h0:0<=i)(h1:i<26):wIx (.str abc) cT h=sO (.str (ltr i),h):=by
 obtain⟨n,rfl⟩:∃n:Nat,i=n:=zo0
 refine QkD (by rw[QjT];decide) ?_;rw[Q6,QlX,Nq,Dr aH];rfl
theorem WJ(e:ms σ h=sO ([aC j],h'))(a:j<1000000):YG ms σ h=sO (QL 0 j,nO,h'):=by
 unfold YG;rw[e,Nk];exact(if_pos ⟨aQ,aQ⟩).trans aB
theorem Zh:(QL a n).length=n:=by simp[QL]
theorem QaA:(QL a n).map f=(List.range n).map λ wL=>f (.int (a+i)):=by simp[QL]
theorem Qp5(h0:0<=i)(h1:i<6):∃v:Int,(v=1\/js8)/\atI [W.int 1,.int 3,.int 5,.int 7,.int 9,.int 11] i=eB v:=by
 obtain⟨x,_,a,e⟩:=Qet (xs:=[mM,3,5,7,9,11]) (f:=W.int) (P:=λv=>v=1\/js8) h0 h1 aE;exact⟨x,a,e⟩
theorem Qpu(h0:0<=i)(h1:i<8):∃v:Int,1<=v/\(v<=8/\v≠2)/\atI [W.int 1,.int 3,.int 4,.int 5,.int 6,.int 7,.int 8,.int 1] i=eB v:=by
 obtain⟨x,_,a,e⟩:=Qet (xs:=[mM,3,4,5,6,7,8,1]) (f:=W.int) (P:=λv=>1<=v/\(v<=8/\v≠2)) h0 h1 aE;exact⟨x,a.1,a.2,e⟩
theorem YO{l:cE j}(h:∀a∈l,∀b∈l,f a=f b->a=b)(d:l.Nodup):(l.map f).Nodup:=by
 unfold List.Nodup;rw[DE];exact Fk (λi g c e=>c (h _ i _ g e)) d
theorem Qac{t st:Int}{a b:Nat}(d:st=1\/st=3\/st=5\/st=7\/st=9\/st=11)(f:a<5)(e:b<5)(h:((t+st*(0+(a:Int)))%26).toNat=((t+st*(0+(b:Int)))%26).toNat):a=b:=by
 rw[YaO,YaO]at h;have l:=jc6 a;have j:=jc6 b;have i:(t+st*a)%26=(t+st*b)%26:=by rw[<-Fp l,<-Fp j,h]
 have c:=Int.emod_eq_emod_iff_emod_sub_eq_zero.mp i;have g:t+st*a-(t+st*b)=st*((a:Int)-b):=by rw[Int.mul_sub];lia
 rw[g]at c;have key:∀a:Fin 5,∀b:Fin 5,∀st∈[mM,3,5,7,9,11],st*((a.val:Int)-b.val)%26=0->a=b:=d5
 exact Fin.mk.inj (key (fF a f) (fF b e) st (bZ d) c)
theorem Qkr(h:a++ltr i++b=a++ltr j++b):i.toNat=j.toNat:=by
 have e:∀x y:Str,zV4:=λx y=>jb6
 have c:=congrArg (λs:Str=>s.cps.toList) h;simp only[e]at c;simp[ltr]at c;exact c
noncomputable def Qkf:aO:=["pair","first","second","none","tell","back","either","or","again","end","do","part"]
structure Nm(x:Str):Prop where
 lo:1<=x.length
 hi:x.length<=8
 sm:∀c∈x.cps.toList,97<=c/\c<=122
 kp:x∉Qkf
theorem Qgl(x y:Str):zV4:=jb6
theorem QbA{i:Int}{n:Nat}(h:i.toNat=n):(rep (ltr j) i).cps.toList=List.replicate n (97+j.toNat):=by
 subst h;unfold rep;simp[ltr]
def two(l:aZ):Prop:=∀c,je3
theorem Qmp{l:aZ}(h:∀c∈l,je3)(d:2<=l.length):two l:=λc=>by
 by_cases a:c∈l
 ·exact h c a
 ·rw[Yav.mpr λx b=>by simp;exact λz=>a (z▸b)];exact d
theorem QcA:∀x∈Qkf,x.cps.toList.length=2/\x.cps.toList.length≠1/\(∀c,x.cps.toList≠List.replicate 2 c)\/two x.cps.toList:=by
 intro x a;have h:∀x∈Qkf,(rC\/x="do")\/((∀c∈x.cps.toList,2<=(x.cps.toList.filter λy=>y != c).length)/\2<=x.cps.toList.length):=lU
 rcases h x a with(rfl|rfl)|h
 ·exact .inl ⟨lU,lU,λc z=>by
   have e:("or":Str).cps.toList=[111,114]:=lU
   show jp1⟩
 ·exact .inl ⟨lU,lU,λc z=>by
   have e:("do":Str).cps.toList=[100,111]:=lU
   show jp1⟩
 ·exact .inr (Qmp h.1 h.2)
theorem Gv(x:Str):x.length=x.cps.toList.length:=by unfold Str.length;simp
theorem GN(n c:Nat):(List.replicate n c).filter (λx=>x != c)=[]:=OW.mpr λy a=>by rw[Oj a];simp
theorem Qnk{x:Str}{c n:Nat}(e:x.cps.toList=zI3 n)(h1:1<=n)(h2:n<=8)(i:97<=c)(h:c<=122):Nm x:=by
 refine⟨by rw[Gv,e];show kQ h1,by rw[Gv,e];show kQ h2,λd hd=>by rw[e]at hd;rw[Oj hd];show k5 i h,k3 g⟩
 rcases QcA x g with⟨a,_,f⟩|b
 ·rw[e]at a;show hX a;exact f c e
 ·have:=b c;rw[e]at this;rw[GN]at this;show iZ
theorem QnB{x:Str}{c d a b:Nat}(e:x.cps.toList=zI3 a++[d]++zI3 b)(h1:a+1+b<=8)(h2:a+1+b≠2)(i:97<=c)(h:c<=122)(n:97<=d)(m:d<=122):Nm x:=by
 refine⟨by rw[Gv,e];simp;omega,by rw[Gv,e];simp;omega,bG y f,k3 l⟩
 ·show Cf e f
  rcases f with⟨_,rfl⟩|rfl|⟨_,rfl⟩
  ·show k5 i h
  ·show k5 n m
  ·show k5 i h
 ·rcases QcA x l with⟨g,_,o⟩|j
  ·show Cf e g;omega
  ·have:=j c;rw[e,Fz,Fz]at this;rw[GN,GN]at this;have p:([d].filter λx=>x != c).length<=1:=Df _ _;simp only[DZ,Dd]at this;omega
theorem G4(f:Fd)(many:Nat)(q:many<=5):∃(ns:aO) (U:Fd),ns.length=many/\(ns.Nodup/\∀x∈ns,Nm x)/\∀(h:MH) (n:Nat),k'->Zy [aF n,.int many] h=sO (JY ns,sM U):=by
 obtain⟨J,I⟩:=Yx (f:=f) (m:=26) aE
 by_cases H:tk zh8 3=0
 ·refine⟨(List.range many).map λ(k:Nat)=>rep T8 (iY+k+1),tf zh8 3,aP,⟨YO (λa _ b _ e=>?_) Ol,bG x u⟩,aM h n z⟩
  ·have:=congrArg Str.length e;rw[QbY,QbY,Qkq]at this;lia
  ·show i5 k r u;have R:=Ep.mp r;exact Qnk (c:=97+(tk f 26).toNat) (n:=k+1) (QbA bR) bR bR bR bR
  ·refine Kk (o:=QO f) (g:=[]) aB z uU ?_ aB ⟨_,rfl,aP⟩
   have e:=XM (fin:=V8) (mi:=YG (Qc aL Ql)) (cp:=BR) (me:=Qn Yo aL (Qn JE aG aK)) (σ:=[sO b',sO (.int many),sO (.str abc),sO (.str T8),nO,nO,nO,nO,nO]) (caps:=[sO (.str T8)]) (h:=[QO (tf zh8 3)]) (items:=QL 0 many)
    (λw=>match w with|aC k=>.str (rep T8 (k+1))|w=>w) (WJ aB (Np q aE)) f9 (λw hw=>by
     show uI k r;simp at r;simp
     exact QfX ⟨aQ,aQ,aP⟩) (by rw[Zh];exact X6 (Nw (Np q aE)))
   simp[Vo,QM,J,I,H,e,V8,JY,QaA]
 ·generalize A:tf zh8 3=f2;obtain⟨b0,b1⟩:=Yx (f:=f2) (m:=26) aE;obtain⟨c0,c1⟩:=Yx (f:=tf f2 26) (m:=6) aE;obtain⟨d0,d1⟩:=Yx (f:=tf (tf f2 26) 6) (m:=8) aE;obtain⟨st,v,Y⟩:=Qp5 c0 c1;have s0:0<=st:=aQ
  have s1:st<=11:=aQ
  obtain⟨sz,z0,z1,X⟩:=Qpu d0 d1;obtain⟨G,F⟩:=Yx (f:=tf (tf (tf f2 26) 6) 8) (m:=sz) aH;generalize y:tk RC sz=i at G F;generalize p:ltr (tk f 26)=j;have l:j.length=1:=by rw[<-p];rfl
  have N:∀n:Int,(rep j n).length=n.toNat:=λn=>by rw[QbY,l];exact Nat.add_comm _ _
  refine⟨(List.range many).map λ(k:Nat)=>rep j i++ltr ((zR+st*(0+d6))%26)++rep j MX,tf RC sz,aP,⟨YO (λa T b S e=>?_) Ol,bG x u⟩,aM h n z⟩
  ·have:=Qkr e;have C:=Ep.mp T;have B:=Ep.mp S;exact Qac v (Ni C q) (Ni B q) this
  ·show i5 k r u;have E:0<=(zR+st*(0+d6))%26:=DB _ aE;have D:(zR+st*(0+d6))%26<26:=DR _ aE;subst p;exact QnB (c:=97+(tk f 26).toNat) (d:=97+((zR+st*(0+d6))%26).toNat) (a:=i.toNat) (b:=(sz-1-i).toNat) (by rw[Qgl,Qgl,QbA rfl,QbA rfl];rfl) bR bR bR bR bR bR
  ·refine Kk (o:=QO f) (g:=[]) aB z uU ?_ aB ⟨_,rfl,aP⟩;have e1:Yo (.str j) (.int MX) [QO (tf RC sz)]=sO (.str (rep j MX),_):=QfX ⟨aQ,aQ,by exact Np (Nt l) aE⟩;have Q:iY<sz:=by exact LB G F
   have t:sz<1000000:=aQ
   simp[Vo,QM,J,I,H,A,p,b0,b1,Y,X,Q,t,y,e1];rw[XM (items:=QL 0 many) (caps:=[sO (.str (rep j MX)),nE j,sO cT,sO (.str abc),sO (.int (tk f2 26)),sO (.int st)]) (λw=>match w with|aC k=>.str (rep j i++ltr ((zR+st*k)%26)++rep j MX)|w=>w)]
   ·simp[V8,JY,QaA]
   ·exact WJ aB (Np q aE)
   ·exact f9
   ·intro w hw;show uI k r;simp at r;have Z:Yo (.str j) cT [QO (tf RC sz)]=sO (.str (rep j i),_):=QfX ⟨aQ,aQ,by exact Np (Nt l) aE⟩;have E:0<=(zR+st*d6)%26:=DB _ aE;have D:(zR+st*d6)%26<26:=DR _ aE;have M:zv6<st:=aQ
    have L:st<18446744073709551616:=aQ
    have P:i.toNat+1<=sizeLine:=X6 aH;have O:i.toNat+1+(sz-1-i).toNat<=sizeLine:=X6 aH;simp[Z,E,D,M,L,N,P,O,Qb9]
   ·rw[Zh];exact X6 (Nw (Np q aE))
inductive PlainL(bs ws:aO):Ln->Prop where
 |pair {x w y z:Str} (hx:x∈bs) (hw:w∈ws) (hy:y∈bs) (hz:z∈bs):PlainL bs ws zD5
 |first {x y:Str} (hx:x∈bs) (hy:y∈bs):PlainL bs ws ["first",x,y]
 |second {x y:Str} (hx:x∈bs) (hy:y∈bs):PlainL bs ws ["second",x,y]
 |same {x y:Str} (hx:x∈bs) (hy:y∈bs):PlainL bs ws ["same",x,y]
 |none {x:Str} (hx:x∈bs):PlainL bs ws ["none",x]
 |tell {x:Str} (hx:x∈bs):PlainL bs ws ["tell",x]
theorem Qeg{xs:aO}{i:Int}(h0:0<=i)(h1:i<xs.length):∃x,x∈xs/\atI (xs.map W.str) i=sO iX:=by
 obtain⟨x,a,_,e⟩:=Qet (xs:=xs) (f:=W.str) (P:=λ_=>True) h0 h1 (λ_ _=>True.intro);exact⟨x,a,e⟩
theorem Qh2(f:Fd)(bs ws:aO)(t:Ma)(p:HY)(hw:Mb)(e:v5):∃(l:Ln) (E:Fd),Hw/\∀(h:MH) (n:Nat),k'->Jz [aF n,JY bs,JY ws] h=sO (Zl l,sM E):=by
 obtain⟨Z,Y⟩:=Yx (f:=f) (m:=10) aE;have b:iY<bs.length:=aQ
 have s:(bs.length:Int)<1000000:=aQ
 have r:iY<ws.length:=aQ
 have C:(ws.length:Int)<1000000:=aQ
 have X:bs≠[]:=by intro z;show Cf z t
 have U:ws≠[]:=by intro z;rw[z]at hw;simp at hw
 have T:bs.length<1000:=by exact Np p aE
 have S:ws.length<1000:=by exact Np e aE
 obtain⟨Q,O⟩:=Yx (f:=tf f 10) (m:=bs.length) b;obtain⟨x,a,A⟩:=Qeg Q O;obtain⟨N,M⟩:=Yx (f:=tf (tf f 10) bs.length) (m:=bs.length) b;obtain⟨y,c,v⟩:=Qeg N M
 by_cases u:tk f 10<4
 ·obtain⟨L,J⟩:=Yx (f:=tf RD bs.length) (m:=bs.length) b;obtain⟨z,D,F⟩:=Qeg L J;obtain⟨I,H⟩:=Yx (f:=tf (tf RD bs.length) bs.length) (m:=ws.length) r;obtain⟨w,hw,G⟩:=Qeg I H;refine⟨_,tf (tf (tf RD bs.length) bs.length) ws.length,.pair a hw c D,aM h n j⟩;refine Kk (o:=QO f) (g:=[]) aB j uU ?_ aB ⟨_,rfl,aP⟩;simp[Vn,QM,JY,X7 b s,X7 r C,A,v,F,G,u,Zl]
 ·have q:0<=tk f 10-4:=aQ
  obtain⟨l,_,d,B⟩:=Qet (xs:=([["first",x,y],["second",x,y],["same",x,y],["none",x],["tell",y],["tell",x]]:eW)) (i:=tk f 10-4) (f:=Zl) (P:=PlainL bs ws) q (by show tk f 10-4<6;lia) (by
   show tK l d
   rcases d with rfl|rfl|rfl|rfl|rfl|rfl
   ·exact .first a c
   ·exact .second a c
   ·exact .same a c
   ·exact .none a
   ·exact .tell c
   ·exact .tell a)
  refine⟨l,tf RD bs.length,d,aM h n j⟩;refine Kk (o:=QO f) (g:=[]) aB j uU ?_ aB ⟨_,rfl,aP⟩;simp[Zl]at B;simp[Vn,QM,JY,X7 b s,A,v,u,B,Zl]
#print "-My"
namespace My4
open My3
noncomputable def kst:Cd->g8->Option (List Cd)
 |.ei,s=>sO (.ei::s)
 |.ag,s=>sO (.ag::s)
 |.oo,s=>match s with
  |e::r=>if e=.ei then sO (.oo::r)else nO
  |[]=>nO
 |.en,s=>match s with
  |e::r=>if e=.ei then nO else sO r
  |[]=>nO
 |.ot,s=>sO s
noncomputable def Wj:g8->g8->Option (List Cd)
 |[],s=>sO s
 |c::ls,s=>(kst c s).bind (Wj ls)
theorem Qc5:∀(ls ms:g8) (s:g8),Wj (ls++ms) s=(Wj ls s).bind (Wj ms):=by
 intro ls
 induction ls with
 |nil=>
  intro ms s;exact rfl
 |cons c ls a=>
  intro ms s;show(kst c s).bind (Wj (ls++ms))=((kst c s).bind (Wj ls)).bind (Wj ms);cases kst c s with
  |none=>rfl
  |some t=>exact a ms t
theorem XQ(h:Wj ls s=sO t)(k:kst c t=sO u):Wj (ls++[c]) s=sO u:=by
 rw[Qc5,h];show(kst c t).bind _=_;rw[k];rfl
theorem Qku{k:Nat}{c:Cd}{st:lG}:(stp k c st).map (List.map En.kd)=kst c (st.map En.kd):=by
 cases c with
 |ei=>rfl
 |ag=>rfl
 |ot=>rfl
 | oo=>
  cases st with
  |nil=>rfl
  |cons e r=>
   show zW4
 | en=>
  cases st with
  |nil=>rfl
  |cons e r=>
   show zW4
theorem QcB:∀{k:Nat},k<=ls.length->(pil ls k).map (List.map En.kd)=Wj (ls.take k) []
 |0,_=>rfl
 | k+1,b=>by
  have a:k<ls.length:=by exact b
  have c:=QcB (ls:=ls) (k:=k) (Nw b);have d:ls.take (k+1)=ls.take k++[ls[k]]:=by rw[IP a]
  rw[d,Qc5,<-c];simp only[pil];rw[Nj a];cases pil ls k with
  |none=>rfl
  |some p=>
   show(stp k ls[k] p).map _=(kst ls[k] (p.map En.kd)).bind (Wj []);rw[<-Qku];cases stp k ls[k] p<;>rfl
theorem bal_iff:Bal ls↔Wj ls []=sO []:=by
 have:=QcB (ls:=ls) (k:=ls.length) c8;rw[Dj]at this;rw[<-this];unfold Bal;cases pil ls ls.length with
 |none=>simp
 |some p=>simp
#print "-My4"
namespace My
open L2 Mi My3 My4
noncomputable def cd(x:Str):Cd:=if l9 then .ei else if qU then .ag else if rC then .oo else if x="end"then .en else .ot
noncomputable def cdL:Ln->Cd
 |[]=>.ot
 |x::_=>cd x
inductive LineOk(bs ws later:aO):Ln->Prop where
 |plain {l:Ln} (h:Hw):AE
 |do {x:Str} (h:x∈later):LineOk bs ws later ["do",x]
 |blk {x:Str} (h:l9\/qU\/rC\/x="end"):LineOk bs ws later [x]
 |back {x:Str} (h:x∈ws):LineOk bs ws later ["back",x]
noncomputable abbrev orL:Ln:=["or"]
noncomputable abbrev Qk2:Ln:=["end"]
noncomputable def U8:Ln->Bool
 |x::_=>x=="do"
 |[]=>false
noncomputable def dcn(ls:eW):Nat:=ls.countP U8
theorem Gf(L:eW)(l:Ln):dcn (L++[l])=dcn L+(if oH then 1 else 0):=by simp[dcn,YaP,Om]
theorem YB{L:eW}(h:U8 l=false):dcn (L++[l])=dcn L:=by rw[Gf,h];rfl
theorem Qif{bs ws:aO}(h:Hw):U8 l=false:=zX6
theorem We:cd "again"=.ag:=d5
theorem Qm4:cd "or"=.oo:=d5
theorem Qc3:cd "end"=.en:=d5
theorem Qhx{bs ws:aO}(h:Hw):cdL l=.ot:=by cases h<;>(show cd _=.ot)<;>decide
@[simp]theorem UK(d:h[i]?=sO (.lst us))(c:h[j]?=sO nF)(pu:Mr)(b:JC a=true):Z8 Ch [i,j]=sO [.lst us,jG a]:=by
 simp[Z8,GP d pu,GP c b]
theorem QiW{O:aO}(d:L.length<=100000)(a:i≠j)(f:h[i]?=zw7)(e:h[j]?=sO (.lst jc7)) :
  QW [aF i,aF j] h=sO (.non,(h.set i (.lst ((L++[orL]).map Zl))).set j (.lst ((O++yS).map .str))):=by
 refine WN (w:=.non) (as:=[hJ,wU]) (ns:=[i,j]) (os:=[pY L,.lst jc7]) (os':=[.lst ((L++[orL]).map Zl),.lst ((O++yS).map .str)]) (g:=[]) rfl (eC a) (UK f e aB aB) ?_ rfl ?_ rfl
 ·have l:SE:=QdI (Nw (Np d aE));simp[JO,QM,l,Zl]
 ·show tK o b
  show v3 b
  ·exact⟨_,rfl,aP⟩
  ·exact⟨_,rfl,aP⟩
theorem Qju{O:aO}{x:Str}(d:za2)(e:L.length<=100000)(a:i≠j)(l:h[i]?=zw7)(f:h[j]?=sO (.lst zw8)) :
  QW [aF i,aF j] h=sO (.non,(h.set i (.lst ((L++[Qk2]).map Zl))).set j (.lst (wB O))):=by
 refine WN (w:=.non) (as:=[hJ,wU]) (ns:=[i,j]) (os:=[pY L,.lst zw8]) (os':=[.lst ((L++[Qk2]).map Zl),pO O]) (g:=[]) rfl (eC a) (UK l f aB aB) ?_ rfl ?_ rfl
 ·have m:SE:=QdI (Nw (Np e aE));simp[JO,QM,m,Zl,d]
 ·show tK o b
  show v3 b
  ·exact⟨_,rfl,aP⟩
  ·exact⟨_,rfl,aP⟩
noncomputable def QjB:Ln->Bool
 |x::_=>x=="back"
 |[]=>false
def Dp(D:Int)(L:eW):Prop:=∀A B s,L=A++B->TH A=sO s->(s.length:Int)<=D
theorem Qon(h:0<=D):Dp D []:=λA B s e a=>by
 obtain⟨rfl,rfl⟩:=List.append_eq_nil_iff.mp e.symm;cases a;exact h
theorem KS(h:Dp D L)(f:js9=sO s)(d:(s.length:Int)<=D):Dp D (L++[l]):=λA B c e a=>by
 rcases List.eq_nil_or_concat B with rfl|⟨g,b,rfl⟩
 ·rw[Dd]at e;subst e;show bK f a;exact d
 ·rw[List.concat_eq_append,<-FF]at e;exact h A g c (List.append_inj_left' e rfl) a
theorem Qil{bs ws:aO}(h:Hw):z5:=zX6
structure PI(bs ws later:aO)(size d0 o0:Int)(n:Nat)(σ:MSt)(h:MH):Prop where
 ex:∃(f:Fd) (L:eW) (O:aO) (op ds:Int) (kk ww:bY),σ=[sO b',sO (.int size),mV,HI,za3,sO (.int ds),sO eP,z7,kk,ww]/\h=[QO f,pY L,pO O] /\
  (∀l∈L,AE)/\TH L=xW O/\(∀x∈O,l9\/qU\/rC)/\L.length=n/\O.length<=n/\(dcn L:Int)+ds=d0/\0<=ds/\zG8+op<=o0/\0<=op/\Dp o0 L/\∀l∈L,z5
theorem Qlk(O:aO)(h:O≠[]):∃r x,O=r++[x]:=jc8 O
theorem Qcz{bs ws later:aO}:LineOk bs ws later Qk2:=.blk (.inr (.inr vF))
theorem Qgm{bs ws later:aO}:LineOk bs ws later orL:=.blk (.inr (.inr fA))
theorem ZW{P:a->Prop}{xs:cE a}(h:∀y∈xs,P y)(c:P x):∀y∈xs++[x],P y:=λy b=>by
 show iV b z
 ·exact h y z
 ·rw[gF z];exact c
theorem Qeo{P:Str->Prop}(h:∀z∈xs++[x],P z)(b:P y):∀z∈xs++[y],P z:=ZW (λz a=>h z (Em _ a)) b
theorem Ym(O:aO)(x:Str):(O++[x]).reverse.map cd=cd x::O.reverse.map cd:=aP
theorem XU(L:eW)(l:Ln):(L++[l]).map cdL=L.map cdL++[cdL l]:=aP
theorem opk{x:Str}(h:l9\/qU\/rC)(a:za2):cd x≠.ei:=by
 rcases h with rfl|rfl|rfl
 ·exact MM a
 ·decide
 ·decide
theorem QiO{s:g8}(h:cd x≠.ei):kst .en (cd x::s)=sO s:=by simp[kst,h]
noncomputable abbrev pS(bs ws later:aO)(a op b:Int)(k:W)(way:Int):MSt:=[sO b',eB a,mV,HI,za3,eB b,sO eP,z7,sO k,sO (.int way)]
theorem QeY{bs ws later:aO}{σ:MSt}(hb:Ma)(Y:HY)(hw:Mb)(U:v5)(aa:later.length<=5)(Q:n<=1000)(H:PI bs ws later e d0 o0 n σ h) :
  ∃σ1,ZP 8 k σ h=sO σ1/\∃σ2 h2,(Vp σ1 h=gP σ2 h2\/Vp σ1 h=Th)/\PI bs ws later e d0 o0 (n+1) σ2 h2:=by
 obtain⟨f,L,O,op,u,kk,ww,rfl,rfl,hL,E,F,B,g,w,A,q,v,t,s⟩:=H.ex;refine Bb;obtain⟨a0,a1⟩:=Yx (f:=f) (m:=14) aE;have C:SE:=QdI (Nw (Np zI4 aE));have X:O.length<sizeLine:=QdI (Nw (Np (Nn g Q) aE));generalize o:tk f 14=c at a0 a1;have M:∀h,Vy (Qy (Qn wLt e' l5)) (Qy (Qn wGt a' aY)) zr2 h=sO (decide (c<3/\0<op),h):=λh=>by by_cases a:c<3<;>simp[a]
 have T:∀f,Vy (Qy (Qn wLt e' sD)) (Qy (Qn wGt (mFn JB kE) aY)) zr2 [QO f,pY L,pO O]=sO (decide (c<6/\0<O.length),[QO f,pY L,pO O]):=λh=>by by_cases a:c<6<;>simp[a]
 have Z:∀h,Vy (Qy (Qn IO e' (mFn V4 (Qc sD (Qc TD Ql))))) (Vy (Qy (Qn wGt c5 aY)) (Qy (Qn wGt (mFn JB (Qc aW Ql)) aY))) zr2 h=sO (decide ((c=6\/c=7)/\0<u/\0<later.length),h):=λh=>by
  by_cases a:c=6\/c=7
  ·by_cases b:0<u<;>simp[a,b]
  ·simp[a]
 by_cases J:c<3/\0<op
 ·obtain⟨x,_,p,R⟩:=Qet (xs:=([("either":Str),"again","either"])) (f:=W.str) (P:=λx=>l9\/qU) a0 (by show c<3;exact J.1) aB;simp at R
  have d:Wj ((L++[[x]]).map cdL) []=sO ((O++[x]).reverse.map cd):=by
   rw[XU,Ym];refine XQ E ?_
   show v3 p
   ·rfl
   ·show kst (cd "again") _=_;rw[We];rfl
  refine⟨pS bs ws later e (op-1) u k c,[QO zG,.lst ((L++[[x]]).map Zl),.lst zw8],lH,⟨_,_,_,_,_,_,_,rfl,rfl,?_,d,?_,?_,?_,?_,A,zK9,cC,KS t d kZ,ZW s zZ6⟩⟩
  ·simp[-QcJ,o,M,J,R,X,C,Zl]
  ·exact ZW hL (.blk (by rcases p with rfl|rfl<;>simp))
  ·exact ZW F (by show zL2 p)
  ·simp[B]
  ·simp;exact g
  ·rw[YB zZ6];exact w
 ·by_cases h2:c<6/\0<O.length
  ·obtain⟨r,x,rfl⟩:=Qlk O (by intro z;show Cf z h2);rw[Ym]at E
   have S:∃G D,((l9/\G=L++[orL]/\D=r++yS)\/(za2/\G=L++[Qk2]/\D=r))/\QW [wU,.ref 2] [QO zG,pY L,.lst ((r++[x]).map .str)]=sO (.non,[QO zG,pY G,pO D]):=by
    by_cases p:l9
    ·subst p;exact⟨_,_,.inl AR,QiW (L:=L) (O:=r) (i:=1) (j:=2) (Nw (Np zI4 aE)) aE rfl rfl⟩
    ·exact⟨_,_,.inr (zi6 p),Qju (L:=L) (O:=r) (x:=x) (i:=1) (j:=2) p (Nw (Np zI4 aE)) aE rfl rfl⟩
   obtain⟨G,D,hc,S⟩:=S;refine⟨jp2,[QO zG,pY G,pO D],lH,⟨_,G,D,_,_,_,_,rfl,rfl,?_⟩⟩
   ·have ab:c<6/\0<r.length+1:=⟨h2.1,by exact Fh _⟩
    have I:=T zG;simp only[Ey,ND,E7]at S I;simp[-QcJ,o,M,J,I,h2.1,S]
   ·rcases hc with⟨rfl,rfl,rfl⟩|⟨p,rfl,rfl⟩
    ·have d:Wj ((L++[orL]).map cdL) []=sO ((r++yS).reverse.map cd):=by
      rw[XU,Ym];exact XQ E rfl
     exact⟨ZW hL Qgm,d,Qeo F aB,hY B,by simp at g ⊢;exact Nw g,by rw[YB aE];exact w,A,cN q,v,jf5,ZW s aE⟩
    ·have d:Wj ((L++[Qk2]).map cdL) []=xW D:=by
      show je4 E;exact QiO (opk (F x aB) p)
     exact⟨ZW hL Qcz,d,λy hy=>F y (Em _ hy),hY B,by simp at g ⊢;exact Nw (Ni g cJ),by rw[YB aE];exact w,A,by simp at q;omega,v,jf5,ZW s aE⟩
  ·by_cases h3:(c=6\/c=7)/\0<u/\0<later.length
   ·have q1:iY<later.length:=aQ
    have q2:(later.length:Int)<1000000:=aQ
    obtain⟨b0,b1⟩:=Yx (f:=tf f 14) (m:=later.length) q1;obtain⟨x,p,R⟩:=Qeg b0 b1
    have d:Wj ((L++[(["do",x]:Ln)]).map cdL) []=xW O:=by
     rw[XU];exact XQ E (by show kst (cd "do") _=_;rw[show cd "do"=.ot by decide];rfl)
    refine⟨pS bs ws later e op (u-1) k c,[QO (tf zG later.length),.lst ((L++[(["do",x]:Ln)]).map Zl),pO O],lH,⟨_,_,_,_,_,_,_,rfl,rfl,?_,d,F,?_,?_,?_,aQ,q,v,KS t d kZ,ZW s (by show((_:Str)==_)=false;decide)⟩⟩
    ·simp[-QcJ,o,M,J,T,h2,Z,h3,C,Zl,X7 q1 q2,R]
    ·exact ZW hL (.do p)
    ·simp[B]
    ·exact Nn g cJ
    ·rw[Gf,if_pos (by show(_==_)=true;decide)];lia
   ·obtain⟨l,f',N,ep⟩:=Qh2 zG bs ws hb Y hw U
    have d:js9=xW O:=by
     rw[XU];exact XQ E (by rw[Qhx N];rfl)
    refine⟨jp2,[QO f',.lst ((L++[l]).map Zl),pO O],lH,⟨_,_,_,_,_,_,_,rfl,rfl,?_,d,F,?_,?_,?_,A,q,v,KS t d kZ,ZW s (Qil N)⟩⟩
    ·simp[-QcJ,o,M,J,T,h2,Z,h3,C,ep]
    ·exact ZW hL (.plain N)
    ·simp[B]
    ·exact Nn g cJ
    ·rw[YB (Qif N)];exact w
noncomputable def wt(O:aO):Nat:=(O.map λ(x:Str)=>if l9 then 2 else 1).sum
noncomputable def Qpz:Ln->Bool
 |x::_=>x=="pair"
 |[]=>false
noncomputable def pcn(ls:eW):Nat:=ls.countP Qpz
theorem Qhh(L:eW)(l:Ln):pcn (L++[l])=pcn L+(if Qpz l=true then 1 else 0):=by simp[pcn,YaP,Om]
theorem Qd3(h:Qpz l=false):pcn (L++[l])=pcn L:=by rw[Qhh,h];rfl
theorem Gz(O:aO)(x:Str):wt (O++[x])=wt O+(if l9 then 2 else 1):=by simp[wt]
theorem Qpx(O:aO):wt O<=2*O.length:=by
 induction O with
 |nil=>simp[wt]
 |cons x O a=>simp only[wt,ND,Yar,NQ]at a ⊢;split<;>lia
theorem Qnb(O:aO)(h:O≠[]):0<wt O:=by
 obtain⟨r,x,rfl⟩:=Qlk O h;rw[Gz];split<;>lia
theorem QeS(g:eW->aO->MH)(bound:Nat)(m:i≠j)(N:bound<=90000)
  (H:∀L O,(g L O)[i]?=zw7) (G:∀L O,(g L O)[j]?=sO (.lst (wB O))) (F:∀L O b q,((g L O).set i (.lst (b.map Zl))).set j (.lst (wB q))=g b q)
  (C:∀L O,t σ P2=sO (decide (0<O.length),g L O)) (E:∀L O w h,QW [aF i,aF j] P2=d7 w h->body σ P2=gP σ h)
  (L:eW) (O:aO) (hL:∀l∈L,AE) (M:TH L=xW O) (P:∀x∈O,l9\/qU\/rC) (J:L.length+wt O<=bound) (B:Dp D L) (z:zG8<=D) (A:∀l∈L,z5) :
  ∃b,(∀l∈b,AE)/\Bal (b.map cdL)/\b.length<=bound/\((dcn b=dcn L/\pcn b=pcn L)/\Dp D b/\∀l∈b,z5)/\Zd t body 1000000 σ P2=sO (.nx σ (g b [])):=by
 have key:=QaU (t:=t) (body:=body) (λn c h=>c=σ/\∃L1 O,((dcn L1=dcn L/\pcn L1=pcn L)/\Dp D L1/\zG8<=D/\∀l∈L1,z5)/\h=g L1 O/\n=wt O/\(∀l∈L1,AE)/\TH L1=xW O/\(∀x∈O,l9\/qU\/rC)/\L1.length+wt O<=bound) (wt O) 1000000 σ P2 aH ⟨rfl,L,O,⟨gD,B,z,A⟩,rfl,rfl,hL,M,P,J⟩ ?_
 ·obtain⟨c,Q,e,rfl,b,q,a,rfl,hw,v,p,u,o⟩:=key
  have:q=[]:=by
   cases q with
   |nil=>rfl
   |cons x r=>have:=Qnb lJ aB;lia
  subst this;exact⟨b,v,bal_iff.mpr p,by exact Nn cJ o,⟨a.1,a.2.1,a.2.2.2⟩,e⟩
 ·rintro n c h ⟨rfl,L1,O,a,rfl,rfl,v,p,u,o⟩
  by_cases f:O=[]
  ·subst f;exact .inl ⟨by rw[C];rfl,rfl⟩
  ·refine .inr ⟨by rw[C,decide_eq_true (Da.mpr f)],?_⟩;obtain⟨r,x,rfl⟩:=Qlk O f;rw[Ym]at p;rw[Gz]at o ⊢
   by_cases s:l9
   ·subst s;rw[fO]at o ⊢
    have d:Wj ((L1++[orL]).map cdL) []=sO ((r++yS).reverse.map cd):=by
     rw[XU,Ym];exact XQ p rfl
    refine⟨wt (r++yS),c,g (L1++[orL]) (r++yS),?_,lH,rfl,_,_,⟨⟨(YB aE).trans a.1.1,(Qd3 aE).trans a.1.2⟩,KS a.2.1 d (by have:=a.2.2.1;simp at this ⊢;exact this),by simpa using a.2.2.1,ZW a.2.2.2 aE⟩,rfl,rfl,ZW v Qgm,d,Qeo u aB,?_⟩
    ·rw[Gz,if_neg aE];exact El aE _
    ·refine E _ _ .non _ ?_;rw[QiW (L:=L1) (O:=r) aH m (H _ _) (G _ _),F]
    ·rw[Gz,if_neg aE];simp;lia
   ·rw[bQ s]at o ⊢
    have d:Wj ((L1++[Qk2]).map cdL) []=xW r:=by
     show je4 p;exact QiO (opk (u x aB) s)
    refine⟨wt r,c,g (L1++[Qk2]) r,by exact N6 _,lH,rfl,_,_,⟨⟨(YB aE).trans a.1.1,(Qd3 aE).trans a.1.2⟩,KS a.2.1 d (by have:=a.2.2.1;simp at this ⊢;lia),by have:=a.2.2.1;show iZ;lia,ZW a.2.2.2 aE⟩,rfl,rfl,ZW v Qcz,d,λy I=>u y (Em _ I),?_⟩
    ·refine E _ _ .non _ ?_;rw[Qju (L:=L1) (O:=r) s aH m (H _ _) (G _ _),F]
    ·simp;lia
theorem Qeq(f:Fd)(a:Nat)(bs ws later:aO)(op:Nat)(B:Int)(s:B=op)(d:Int)(M:op<=10)(x:0<=d)(J:a<=100)(X:Ma)(z:HY)(hw:Mb)(q:v5)(v:later.length<=5) :
  ∃(ls:eW) (f':Fd),Bal dL/\(∀l∈ls,AE)/\ls.length<=a+2*op/\((dcn ls:Int)<=d/\Dp op ls/\(∀l∈ls,z5)/\pcn ls<=a)/\∀(h:MH) (n:Nat),k'->Jl [aF n,aC a,.tup [JY bs,JY ws],JY later,aC B,aC d] h=sO (.tup hW,sM f'):=by
 subst s
 have m:=Va (items:=QL 0 a) (b:=ZP 8) (body:=Vp) (PI bs ws later a d op) (QL 0 a) 0 [sO b',eB a,mV,HI,za3,eB d,sO eP,z7,nO,nO] [QO f,cK,cK]
  ⟨f,[],[],op,d,nO,nO,rfl,rfl,aP,rfl,aP,rfl,Nv _,by simp[dcn],x,aP,aQ,Qon bR,aP⟩ (λj w S F h H=>QeY X z hw q v (by have:=bX S;rw[Zh]at this;lia) H)
 show iO E h' e1 H m;obtain⟨f1,L,O,p,A,I,G,rfl,rfl,hL,R,Y,C,r,T,U,P,N,y,u⟩:=H.ex;rw[Zh,NR]at C r
 have cl:=QeS (bs:=bs) (ws:=ws) (later:=later) (i:=1) (j:=2) (t:=Qy (Qn wGt (mFn JB kE) aY)) (body:=KN) (σ:=[sO b',eB a,mV,HI,eB p,eB A,sO eP,z7,I,G])
  (λL O=>[QO f1,pY L,pO O]) (a+2*op) aE aH Bh Bh (λ_ _ _ _=>rfl) (λL O=>aP) (λL O w h e=>hY e) L O hL R Y (by have:=Qpx O;lia) y aH u
 obtain⟨D,h1,h2,Z,c,e2⟩:=cl;refine⟨D,f1,h2,h1,Z,⟨by rw[c.1.1];lia,c.2.1,c.2.2,by rw[c.1.2];exact Nn List.countP_le_length (Nt C)⟩,aM h n Q⟩;refine Kk (o:=QO f) (g:=[pY D,cK]) aB Q uU ?_ aB ⟨_,rfl,aP⟩;have er:YG (Qc aL Ql) [sO b',eB a,mV,HI,za3,eB d,sO eP,z7,nO,nO] [QO f,cK,cK]=sO (QL 0 a,nO,[QO f,cK,cK]):=WJ aB (Np J aE);simp[XY,QM,Ve,er,e1,e2]
noncomputable abbrev Qkb(i:Nat):Nat:=if i=0 then 23 else 1
def TwA(p:bM):Prop:=(∀x,p[0]?=sO x->dP<=12/\Cb<=2/\Dp 2 x.2/\pcn x.2<=6)/\∀i x,p[i+1]?=sO x->dP<=5/\Cb<=1/\Dp 1 x.2/\pcn x.2<=3
theorem TwA.snoc{p:bM}{nm:Str}{ls:eW}(h:TwA p)(d:p≠[])(c:ls.length<=5/\dcn ls<=1/\Dp 1 ls/\pcn ls<=3):TwA (p++[(nm,ls)]):=by
 have e:=Da.mpr d;refine⟨λx a=>h.1 x (by rwa[NJ e]at a),aM i x a⟩
 by_cases b:i+1<p.length
 ·exact h.2 i x (by rwa[NJ b]at a)
 ·rw[Dw (hP b)]at a;have:i+1-p.length=0:=by have:=bX a;show j8
  rw[this]at a;show hX a;exact c
structure GoodP(N:Nat)(bs ws:aO)(p:bM):Prop where
 ne:p≠[]
 len:p.length<=5
 bal:∀x∈p,Bal uV
 sz:∀x∈p,dP<=N
 ok:∀(i:Nat) (x:Pt),mD->∀l∈x.2,LineOk bs ws ((p.map (·.1)).drop (i+1)) l
 nd:(p.map (·.1)).Nodup
 dos:∀(i:Nat) (x:Pt),mD->Cb<=Qkb i
theorem QhZ(xs:cE a)(k:Nat):Ye xs (sO d6) nO=xs.drop k:=by
 unfold Ye;rw[HT.sIx_nat,HT.sIx_none]
 by_cases h:k<=xs.length
 ·rw[Nat.min_eq_left h,FA aB]
 ·rw[Ya7 (Nw (Iq.mp h)),Du c8,Du (Nw (Iq.mp h))];simp
theorem QiJ{k:Nat}(a:i=k):wSl (JY ns) (sO i) nO h=sO (JY (ns.drop k),h):=by
 subst a;unfold JY;simp[QhZ,List.map_drop]
@[simp]theorem QpB:wSl (JY ns) (sO 1) nO h=sO (JY (ns.drop 1),h):=QiJ (k:=1) rfl
theorem Qi2{i:Int}(h:0<=i):∃n:Nat,i=n:=zo0
theorem Qic(e:ms σ h=sO ([.int 1,aC j],h'))(a:j<100000000):Qhk ms σ h=sO (QL 1 (j-1),nO,h'):=by
 unfold Qhk;rw[e,Nk];refine(if_pos ⟨by exact d5,by exact d5,aQ,aQ⟩).trans ?_;rw[show(fK-1).toNat=j-1 by lia]
structure PP(N:Nat)(bs ws names:aO)(k:Nat)(p:bM):Prop where
 nm:p.map (·.1)=names.take k
 bal:∀x∈p,Bal uV
 sz:∀x∈p,dP<=N
 ok:∀(i:Nat) (x:Pt),mD->∀l∈x.2,LineOk bs ws (names.drop (i+1)) l
 dos:∀(i:Nat) (x:Pt),mD->Cb<=Qkb i
theorem PP.snoc{nm:Str}(H:PP N bs ws a k p)(e:a[k]?=sO nm)(j:Bal dL)(g:ls.length<=N)(h:∀l∈ls,LineOk bs ws (a.drop (k+1)) l)(hd:dcn ls<=Qkb k):PP N bs ws a (k+1) (p++[(nm,ls)]):=by
 have d:=bX e;have c:p.length=k:=by show PF;lia
 refine⟨?_,ZW H.bal j,ZW H.sz g,aM i x b,aM i x b⟩
 ·rw[Ey,H.nm,IP d];rw[Nj d]at e;cases e;rfl
 ·by_cases f:i<p.length
  ·rw[NJ f]at b;exact H.ok i x b
  ·have:i=p.length:=by have:=bX b;show iZ;lia
   subst this;show hX b;rw[c];exact h
 ·by_cases f:i<p.length
  ·rw[NJ f]at b;exact H.dos i x b
  ·have:i=p.length:=by have:=bX b;show iZ;omega
   subst this;show hX b;rw[c];exact hd
theorem PP.good(H:PP N bs ws a a.length p)(e:a≠[])(f:a.length<=5)(d:a.Nodup):gC:=by
 have b:p.map (·.1)=a:=by rw[H.nm,Dj]
 have c:p.length=a.length:=by rw[<-b];simp
 refine⟨λz=>e (by rw[<-b,z];rfl),by exact Nn (Nt c) f,H.bal,H.sz,?_,nA b d,H.dos⟩;rw[b];exact H.ok
theorem QdR(f:Fd)(t s r d:Nat)(h0:1<=t/\t<=5)(h1:1<=s/\s<=5)(h2:1<=r/\r<=5)(h3:3<=d/\d<=6) :
  ∃(bs ws:aO) (p:bM) (J:Fd),(Ma/\HY)/\(Mb/\v5)/\(zB5/\TwA p/\p.length<=r)/\∀(h:MH) (n:Nat),k'->Jh [aF n,.lst [aC t,aC s,aC r,aC d]] h=sO (Zx p,sM J):=by
 have q0:iY<t:=aQ
 have P:(t:Int)<1000000:=aQ
 have q1:iY<s:=aQ
 have O:(s:Int)<1000000:=aQ
 have q2:iY<r:=aQ
 have N:(r:Int)<1000000:=aQ
 obtain⟨a0,a1⟩:=Yx (f:=f) q0;obtain⟨n0,e0⟩:=Qi2 a0;obtain⟨bs,f1,lb,ae,eb⟩:=G4 (tf f t) (1+n0) aH;obtain⟨c0,c1⟩:=Yx (f:=f1) q1;obtain⟨n1,e1⟩:=Qi2 c0;obtain⟨ws,f2,lw,ab,ew⟩:=G4 (tf f1 s) (1+n1) aH;obtain⟨d0,d1⟩:=Yx (f:=f2) q2;obtain⟨n2,e2⟩:=Qi2 d0;obtain⟨a,q,F,S,en⟩:=G4 (tf f2 r) (1+n2) aH;obtain⟨g0,g1⟩:=Yx (f:=q) (m:=3) aE;have D:Ma/\HY:=aQ
 have hw:Mb/\v5:=aQ
 obtain⟨c,U,hs,es⟩:∃(c:Nat) (U:Fd),c<=6/\(if tk zM 4=0 then@om _ _ (λp=>MF.nx [sO b',sO (.lst [aC t,aC s,aC r,aC d]),mV,zK,sO p.fst,nO,nO] p.snd) (Qm [hJ,.int (d-tk q 3+1)] [QO (tf zM 4)])
   else sO (MF.nx [sO b',sO (.lst [aC t,aC s,aC r,aC d]),mV,zK,sO (.int (d-tk q 3)),nO,nO] [QO (tf zM 4)]))=sO (.nx [sO b',sO (.lst [aC t,aC s,aC r,aC d]),mV,zK,eB c,nO,nO] [QO U]):=by
  by_cases z:tk zM 4=0
  ·have E:iY<d-tk q 3+1:=aQ
   have M:(d:Int)-tk q 3+1<1000000:=aQ
   obtain⟨k0,k1⟩:=Yx (f:=tf zM 4) E;obtain⟨sz,X⟩:=Qi2 k0;exact⟨sz,tf (tf zM 4) (d-tk q 3+1),aQ,by simp[z,X7 E M,X]⟩
  ·obtain⟨sz,X⟩:=Qi2 (i:=d-tk q 3) aH;exact⟨sz,tf zM 4,aQ,zX z X⟩
 obtain⟨u,I,p1,p2,p3,y,ep⟩:=Qeq U c bs ws (a.drop 1) 2 2 rfl 2 aE aE (Nw (Np hs aE)) D.1 D.2 hw.1 hw.2 sC;obtain⟨e,C⟩:∃x,a[0]?=sO x:=⟨a[0]'(Ni (Ni aE cJ) (cL F)),Nj (Ni (Ni aE cJ) (cL F))⟩
 have A:=Va (items:=QL 1 zJ4) (b:=ZP 6) (body:=XG) (λn σ h=>∃(f:Fd) (p:bM) (Q:bY),σ=[sO b',sO (.lst [aC t,aC s,aC r,aC d]),mV,zK,eB c,sO eP,Q]/\h=[QO f,.lst qF]/\PP 300 bs ws a (n+1) p/\TwA p/\∀x∈p,∀l∈x.2,z5)
  (QL 1 zJ4) 0 [sO b',sO (.lst [aC t,aC s,aC r,aC d]),mV,zK,eB c,sO eP,nO] zv0
  ⟨I,[(e,u)],nO,rfl,rfl,PP.snoc (p:=[]) ⟨rfl,aP,aP,aP,aP⟩ C p1 aH p2 (by show _<=23;have:=y.1;lia),⟨λx G=>by show hX G;exact⟨by show u.length<=12;lia,by show dcn u<=2;have:=y.1;lia,y.2.1,by show pcn u<=6;have:=y.2.2.2;lia⟩,λi x G=>gL G⟩,by simpa using y.2.2.1⟩ (by
   rintro j w hj σ h ⟨f,p,Q,rfl,rfl,H,H0,H1⟩
   have T:=(Nd.mp hj).1;rw[Zh]at T;obtain rfl:w=.int (fK+1):=by rw[(Vz hj).2,Int.add_comm]
   refine Bb;obtain⟨t0,t1⟩:=Yx (f:=f) (m:=4) aE;obtain⟨m,em⟩:=Qi2 t0;obtain⟨ls,J,E,M,r3,v,L⟩:=Qeq (tf f 4) m bs ws (a.drop (j+2)) 1 1 rfl 1 aE aE aH D.1 D.2 hw.1 hw.2 sC;obtain⟨nm,B⟩:∃x,a[j+1]?=sO x:=⟨a[j+1]' aH,Nj bR⟩
   refine⟨[sO b',sO (.lst [aC t,aC s,aC r,aC d]),mV,zK,eB c,sO eP,sO (.int (fK+1))],[QO J,.lst ((p++[(nm,ls)]).map Xy)],lH,J,_,_,rfl,rfl,?_⟩
   ·have ea:atI (O' W) (fK+1)=sO zh9:=by rw[show fK+1=((j+1:Nat):Int) by exact rfl,Q6,Nq,B];rfl
    have Y:∀h,wSl (JY a) (sO (fK+1+1)) nO h=sO (JY (a.drop (j+2)),h):=λh=>QiJ rfl;have R:p.length<sizeLine:=by show PF;exact QdI aH
    simp[ea,Y,em,L,R,Xy]
   ·rw[NR]at H ⊢
    exact⟨H.snoc B E aH M (by rw[Qkb,if_neg (EC Ci)];have:=v.1;lia),H0.snoc (by intro z;rw[z]at H;show PF;lia) ⟨aQ,by have:=v.1;lia,v.2.1,by have:=v.2.2.2;lia⟩,ZW H1 v.2.2.1⟩)
 obtain⟨aa,h',el,f6,p,Q,rfl,rfl,H,H0,H1⟩:=A;rw[Zh,NR,show a.length-1+1=a.length by lia]at H;refine⟨bs,ws,p,f6,D,hw,⟨H.good (by intro z;show Cf z F;lia) aH S.1,H0,by show PF;lia⟩,λh n hn=>?_⟩;refine Kk (o:=QO f) (g:=[.lst qF]) aB hn uU ?_ aB ⟨_,rfl,aP⟩;have L:Qhk (Qc aK (Qc (mFn JB (Qc aW Ql)) Ql)) [sO b',sO (.lst [aC t,aC s,aC r,aC d]),mV,zK,eB c,sO eP,nO] zv0=sO (QL 1 zJ4,nO,zv0):=Qic aB aH;have ea:atI (O' W) 0=nE e:=by rw[QsK,Nq,C];rfl
 push_cast at eb ew en;rw[List.drop_one]at ep;have Z:Xy (e,u)=.tup [c4 e,.tup (u.map Zl)]:=rfl;rw[Z]at L el;simp[VM,QM,Ve,X7 q0 P,X7 q1 O,X7 q2 N,e0,e1,e2,eb,ew,en,es,ea,ep,L,el,Zx]
theorem VC(h:LineOk bs ws a l):Be:=by
 cases h with
 |plain h=>cases h<;>exact mZ
 |«do» h=>exact mZ
 |blk h=>exact mZ
 |back h=>exact mZ
theorem Qes(h:gC)(b:N<=M):GoodP M bs ws p:=⟨h.ne,h.len,h.bal,λx a=>Nn (h.sz x a) b,h.ok,h.nd,h.dos⟩
theorem QeA(ns:dO)(k:Nat)(l:k<100):∃f:Fd,∀h:MH,ZS [.frz l4,aC k] h=sO (eX,h++[QO f]):=by
 have fin:∀(a b:Int) (g:0<=b/\b<1099511627776),Vc [.frz l4,aC k] []=sO (hJ,[.lst [aC a,aC b]])->∀h:MH,ZS [.frz l4,aC k] h=sO (eX,h++[QO ⟨a,b,g⟩]):=by
  intro a b g e h;unfold ZS box;have i:X5 0 [.frz l4,aC k]=sO ([.frz l4,aC k],[]):=hY X5
  rw[i,Nk];show ji8;rw[zo3];simp[frR,th,res,W4,Z8,thO,ths,Q0,QO]
 obtain⟨c,d⟩:∃c:Int,(if d6<(ns.length:Nat)then@om _ _ (λp=>MF.nx [sO (.frz l4),eB k,sO p.fst,nO] p.snd) (@om _ _ (λw=>(w,([]:MH))) (atI (oG W) d6))else sO (MF.nx [sO (.frz l4),eB k,sO w9,nO] []))=sO (MF.nx [sO (.frz l4),eB k,eB c,nO] []):=by
  by_cases j:k<ns.length
  ·refine⟨ns[k],?_⟩;rw[if_pos bR,Q6,Nq,Nj j];simp
  ·exact⟨0,by rw[if_neg bR]⟩
 have n:0<=Re:=DB _ aE;have m:Re<2147483647:=DR _ aE
 by_cases hd:(1000000000000000000:Int)<=c
 ·refine⟨⟨c-1000000000000000000,Re+k,cC⟩,fin _ _ _ ?_⟩;simp at d;simp[Vc,QM,d,hd]
 ·refine⟨⟨0,Re+k,cC⟩,fin _ _ _ ?_⟩;simp at d;simp[Vc,QM,d,hd]
noncomputable def rW:qJ->W
 |dY t=>.ref (t+2)
 |none=>.non
noncomputable def tO(x:Nat×hF):MO:=.lst zp5
noncomputable def hB(b:Bk)(n:Nat):MH:=.lst (b.rws.map rW++List.replicate n .non)::zU2::b.trs.map tO
theorem QgF(h:pil ls (k+1)=sO p):∃q c,pil ls k=sO q/\lK=sO c/\stp k c q=sO p:=by
 show dJ q d a h;cases b:lK with
 |none=>show bK b a
 |some c=>rw[b]at a;exact⟨q,c,d,rfl,a⟩
theorem Qk4:∀{n:Nat} {p:lG},pil ls n=sO p->∀k,k<=n->∃q,pil ls k=sO q:=by
 intro n
 induction n with
 |zero=>
  intro p h k a;exact⟨p,by rw[Nat.le_zero.mp a];exact h⟩
 |succ n b=>
  intro p h k a
  by_cases z:k=n+1
  ·rw[z];show k5 p h
  ·obtain⟨q,c,d,_⟩:=QgF h;exact b d k aH
theorem Qmw(ls:g8):∀k,(∀t∈(bks ls k).st,jv0)/\∀t,sO t∈(bks ls k).rws->jv0:=by
 intro k
 induction k with
 |zero=>
  exact⟨by simp[bks],by simp[bks]⟩
 | succ k l=>
  show lO e h l;simp only[bks];split
  ·rename_i c m;generalize bks ls k=b at e h;obtain⟨g,st,i⟩:=b
   have hd:∀t,st.head?=sO t->t<g.length:=by
    intro t d;cases st with
    |nil=>simp at d
    |cons a r=>
     show hX d;exact e _ NF
   have j:∀f,(My4.top ⟨g,st,i⟩ f).length=g.length:=λf=>by unfold My4.top;cases st<;>simp
   cases c<;>simp only[bst]
   ·refine⟨bG t d,bG t d⟩
    ·show zW9
     ·have:=e t d;show iZ;exact Ni this cJ
    ·simp at d ⊢;rcases d with d|rfl
     ·have:=h t d;show iZ;exact Ni this cJ
     ·exact N6 _
   ·refine⟨bG t d,bG t d⟩
    ·show zW9
     ·have:=e t d;show iZ;exact Ni this cJ
    ·simp at d ⊢;rcases d with d|rfl
     ·have:=h t d;show iZ;exact Ni this cJ
     ·exact N6 _
   ·rw[j];refine⟨e,bG t d⟩;simp at d
    show i7 d
    ·exact h t d
    ·exact hd t d.symm
   ·rw[j];refine⟨λt d=>e t (List.mem_of_mem_tail d),bG t d⟩;simp at d
    show i7 d
    ·exact h t d
    ·exact hd t d.symm
   ·refine⟨e,bG t d⟩;simp at d
    show i7 d
    ·exact h t d
    ·exact hd t d.symm
  ·show k5 e h
theorem Qjz(h:a.length=k):(a++x::b).set k y=a++y::b:=by subst h;simp
theorem QeP{l:List (Nat×hF)}(h:l[t]?=sO x):(l.map tO).set t (tO (f x))=(l.modify t f).map tO:=by
 show wF i;rw[LU,Nq,Nq,Lf];have a:=bX h
 by_cases z:t=i
 ·subst z;rw[h];simp[a]
 ·simp[z]
noncomputable abbrev bS(ls:eW)(k:bY):MSt:=[sO (.tup hW),sO b',sO eP,k]
theorem Vj{x:Str}:(l9/\cd x=.ei)\/(qU/\cd x=.ag)\/(rC/\cd x=.oo)\/(x="end"/\cd x=.en)\/((za2/\x≠"again"/\x≠"or"/\x≠"end")/\cd x=.ot):=by
 unfold cd
 by_cases d:l9
 ·exact .inl ⟨d,bH d⟩
 rw[bQ d]
 by_cases c:qU
 ·exact .inr (.inl ⟨c,bH c⟩)
 rw[bQ c]
 by_cases b:rC
 ·exact .inr (.inr (.inl ⟨b,bH b⟩))
 rw[bQ b]
 by_cases a:x="end"
 ·exact .inr (.inr (.inr (.inl ⟨a,bH a⟩)))
 rw[bQ a];exact .inr (.inr (.inr (.inr ⟨⟨d,c,b,a⟩,rfl⟩)))
theorem Qb6{b:Bk}{p N:lG}(R:lK=sO l)(Q:l=x::r)(T:k<=5000)(A:b.st.length<=5000)(B:BI dL k b p)(w:stp k (cdL l) p=sO N) :
  VP (bS ls (bL k)) (hB b (n+1))=sO (.nx (bS ls (bL k)) (hB (bst k (cdL l) b) n)):=by
 subst Q;have L:atI hW d6=sO (Zl lJ):=Hq R
 have S:Zl lJ=.tup (c4 x::r.map .str):=rfl;rw[S]at L;have c:∀h,Qn wIx (Qn wIx aG aW) aY (bS ls (bL k)) h=sO (c4 x,h):=λh=>hY L
 obtain⟨j,st,d⟩:=b;have o:(d.map rW).length=k:=by simp;exact B.len
 have C:d.length=k:=B.len;have e:ixN (d.length+(n+1)) d6=sO k:=QjH aH;have u:∀v,(d.map rW++List.replicate (n+1) W.non).set k v=d.map rW++v::List.replicate n W.non:=λv=>by rw[Yaw,Qjz o]
 have F:st.length<sizeLine:=QdI (Nn (show st.length<=5000 from A) aE);have D:cdL lJ=cd x:=rfl;rw[D]at w ⊢
 show zV5 s J I H G
 all_goals rw[s]at w ⊢
 ·simp[hB,bst,c,F,e,u,FW,rW,tO]
 ·simp[hB,bst,c,F,e,u,FW,rW,tO]
 ·cases p with
  |nil=>cases w
  | cons a M=>
   have i:=B.op;cases i with
   |@cons t _ m _ y P O q=>
    show zN8
    simp[hB,bst,c,e,u,FW,rW,tO,My4.top,E];exact QeP (f:=Sx) g
 ·cases p with
  |nil=>cases w
  | cons a M=>
   have i:=B.op;cases i with
   |@cons t _ m _ y P O q=>
    show zN8
    simp[hB,bst,c,e,u,FW,rW,tO,My4.top,E];exact QeP (f:=EQ) g
 ·cases st with
  |nil=>
   simp[hB,bst,c,J,I,H,G,rW];rw[Yaw]
  |cons t m=>simp[hB,bst,c,J,I,H,G,e,u,rW]
noncomputable def rv(b:Bk):qJ->W
 |dY t=>match nC with
  |dY x=>.lst zp5
  |none=>.non
 |none=>.non
noncomputable def Qdu(b:Bk):W:=.lst zy5
theorem Qm1:pln (rv b o)=true:=by
 cases o with
 |none=>rfl
 |some t=>
  simp only[rv];split<;>rfl
@[simp]theorem QpW:pln (Qdu b)=true:=by unfold Qdu pln;exact VZ λ_=>Qm1
theorem Qhg(l:g=A::B::b.trs.map tO)(c:∀j,kp j=nO):∀(os:lT),(∀t,sO t∈os->t<b.trs.length)->ths (res kp g 2) (os.map rW)=sO (os.map (rv b)):=by
 intro os
 induction os with
 |nil=>
  intro _;exact rfl
 | cons o os f=>
  intro h;rw[ND,ths,f (jT t i h)];cases o with
  |none=>rfl
  | some t=>
   have a:=h t NF;have e:nC=sO b.trs[t]:=Nj a
   have d:g[t+2]?=sO (.lst [.int b.trs[t].1,.int b.trs[t].2.1,.int b.trs[t].2.2]):=by
    rw[l];simp only[Dm,Nq,e];rfl
   have:th (res kp g 2) (rW (sO t))=sO (rv b (sO t)):=by
    simp only[rW,th,res,c,d,rv,e];rfl
   show wW
theorem QnQ(ls:g8):∀k,(bks ls k).st.length<=k
 |0=>Nv _
 |k+1=>by
  have a:=QnQ ls k;simp only[bks];split
  ·rename_i c b;cases c<;>simp[bst]<;>omega
  ·exact Nn a cJ
theorem QdZ(ls:eW)(S:Bal dL)(z:∀l∈ls,Be)(o:ls.length<=5000)(h:MH):QY [.tup hW] h=sO (Qdu (bks dL ls.length),h):=by
 have C:pil dL ls.length=sO []:=by have:=S;unfold Bal at this;rwa[Ny]at this
 have f:=Va (items:=QL 0 ls.length) (b:=ZP 3) (body:=VP) (λn s h=>∃u,s=bS ls u/\h=hB (bks dL n) (ls.length-n)/\n<=ls.length) (QL 0 ls.length) 0 (bS ls nO) (hB TB ls.length) ⟨nO,rfl,by simp[bks],NS _⟩ (by
  rintro j w R s h ⟨u,rfl,rfl,E⟩
  obtain⟨d,rfl⟩:=Vz R;rw[NR]at *;obtain⟨l,a⟩:∃l,kN=sO l:=⟨ls[j],Nj d⟩
  obtain⟨x,r,N⟩:=z l (j7 j a);obtain⟨X,y⟩:=Qk4 C (j+1) d;obtain⟨p,c,Q,G,O⟩:=QgF y;have i:(ls.map cdL)[j]?=sO (cdL l):=Bj a
  show bK i G;obtain⟨_,B⟩:=Qc0 Q;have v:(bks dL j).st.length<=5000:=Nn (QnQ _ j) (Nn E o);refine⟨bS ls (sO (.int (iY+j))),rfl,bS ls (bL j),hB (bks dL (j+1)) (ls.length-(j+1)),lH,_,rfl,rfl,by exact d⟩;have e:=Qb6 (n:=ls.length-(j+1)) a N (Nn E o) v B O;rw[show ls.length-(j+1)+1=ls.length-j by lia]at e;rw[YaO];simp only[bks,i]
  exact e)
 obtain⟨L,h',q,u,rfl,rfl,_⟩:=f;rw[Zh,NR,Nat.sub_self]at q;generalize D:bks dL ls.length=b at q ⊢;have I:=XM (fin:=QoQ) (mi:=Zb aG) (cp:=[nO]) (me:=mC .non) (σ:=[sO (.tup hW),nO,nO,nO]) (caps:=[]) (h:=[]) (items:=ls.map Zl) (λ_=>W.non) rfl f9 (λw hw=>rfl) (by simp;exact X6 (Nw (Np o aE)));rw[List.map_const',Ny]at I;have H:YG (Qc (mFn JB (Qc aG Ql)) Ql) (bS ls nO) (hB TB ls.length)=sO (QL 0 ls.length,nO,hB TB ls.length):=WJ aB (Np o aE)
 have:=WN (m:=Jj) (args:=[.tup hW]) (as:=[.tup hW]) (ns:=[]) (os:=[]) (os':=[]) (g:=hB b 0) (h:=h) (w:=hJ) (w':=Qdu b) (eC X5) aB rfl (by
  simp[hB]at H q;simp[Jj,QM,Ve,I,QoQ,H,q,hB]) rfl aB (by
  have F:∀j,W4 [] [] h.length j=nO:=λj=>hY W4
  have P:=Qhg (b:=b) (kp:=W4 [] [] h.length) (g:=hB b 0) (A:=.lst (b.rws.map rW++List.replicate 0 .non)) (B:=zU2) rfl F b.rws (by rw[<-D];exact(Qmw _ _).2);show th (res (W4 [] [] h.length) (hB b 0) 3) b'=_;have T:(hB b 0)[0]?=sO (.lst (b.rws.map rW)):=by simp[hB]
  unfold th res;simp only[F 0,T,P]
  rfl)
 show box frN Jj _ _=_;show j8
theorem Qbt(P:Do)(v:W)(d:MH):∀(r:aI) (n m:Nat) (σ:MSt) (h:MH),P n σ h->m<r.length ->
  (∀(j:Nat) (w:W),j<m->zf2->∀σ h,za0->∃σ1,yH/\∃σ2 h2,qL=gP σ2 h2/\T0) ->
  (∀w,r[m]?=sO w->∀σ h,P (n+m) σ h->∃σ1,yH/\qL=vS d)->Rx=vS d
 |[],n,m,σ,h,_,e,_,_=>gL e
 |w::r,n,0,σ,h,a,_,_,f=>by
  obtain⟨σ1,i,g⟩:=f w rfl σ h a;rw[JX,nZ,i,Nk,g];rfl
 | w::r,n,m+1,σ,h,a,e,l,f=>by
  obtain⟨σ1,i,σ2,h2,g,o⟩:=l 0 w Ci rfl σ h a;rw[JX,nZ,i,Nk,g]
  exact Qbt (items:=items) (b:=b) (body:=body) P v d r (n+1) m σ2 h2 o (bZ e) (λj x p c σ h a=>by
   have:=l (j+1) x (E6 p _) (bZ c) σ h (Cw j a);show Pm) (λx c σ h a=>f x (bZ c) σ h (Cw m a))
@[simp]theorem QoX:Q9 [Zl lJ] h=sO (.int (ch A1),h):=by
 refine QH (g:=[]) aB ?_ rfl;have b:Zl lJ=.tup (c4 x::r.map .str):=rfl
 show zV5 a e d f c
 show zb6
 show zb6
 show zb6
 show zb6
 ·simp[Zk,QM,b,e,d,c,a,ch]
@[simp]theorem Qrw:wIx (Zl lJ) w9 h=sO (c4 x,h):=by unfold Zl;simp
@[simp]theorem QrE:wIx (Zl (x::y::r)) (.int 1) h=sO (c4 y,h):=by unfold Zl;simp
theorem QfQ(e:ms σ h=sO ([aC i,aC j],h'))(b:-1000000<=i/\i<=1000000)(a:-1000000<=j/\j<=1000000):Qhk ms σ h=sO (QL i (j-i).toNat,nO,h'):=by
 unfold Qhk;rw[e,Nk];exact if_pos ⟨aQ,cC,aQ,cC⟩
noncomputable abbrev fS(ls:eW)(k:Nat)(y:Str)(a j:bY):MSt:=[sO (.tup hW),eB k,nE y,a,j]
theorem Qaj{ls:eW}{j:Nat}(h:kN=sO l):atI hW fK=sO (Zl l):=Hq h
theorem Qal{ls:eW}{k j:Nat}(v:∀l∈ls,Be)(O:ls.length<=5000)(I:∀x:Str,cd x=cd y↔x=y)(B:Beh dL k (cd y) j):QQ [.tup hW,aC k,c4 y] h=sO (aC j,h):=by
 refine QH (g:=[]) aB ?_ rfl;have D:j<ls.length:=by have:=zb7 B;show j8
 have C:=B.lt
 have M:∀d,Qhk (Qc (Qn JE aL aK) (Qc (mFn JB (Qc aG Ql)) Ql)) (fS ls k y (sO w9) d) []=sO (QL (d6+1) zA2,nO,[]):=by
  intro d;rw[QfQ (h':=[]) (i:=d6+1) (j:=ls.length) aB aH aH,show((ls.length:Int)-(d6+1)).toNat=ls.length-(k+1) by lia]
 have lines:∀i,k<i->i<=j->∃x r,ls[i]?=sO lJ/\(ls.map cdL)[i]?=sO A1:=λi _ G=>by
  have m:i<ls.length:=by exact Np G D
  obtain⟨x,r,e⟩:=v ls[i] (E4 m);have H:ls[i]?=sO lJ:=by rw[Nj m,e]
  exact⟨x,r,H,Bj H⟩
 have f:=Qbt (items:=QL (d6+1) zA2) (b:=ZP 4) (body:=XF) (λn s h=>∃d,s=fS ls k y (sO (.int (lev dL (k+1+n)-lev dL (k+1)))) d/\h=[]) gQ [] (QL (d6+1) zA2) 0 (j-(k+1)) (fS ls k y (sO w9) nO) [] ⟨nO,aP,rfl⟩ (by rw[Zh];omega) (by
  rintro i w G hw s h ⟨d,rfl,rfl⟩
  obtain⟨_,rfl⟩:=Vz hw;obtain⟨x,r,t,q⟩:=lines Pd (Ni oZ cJ) bR;have E:=Qaj t;have J:=VT q;rw[NR];have p:atI hW (d6+1+fQ)=sO (Zl lJ):=by rw[show(d6+1+fQ)=((k+1+i:Nat):Int) by exact rfl];exact E
  refine⟨fS ls k y (sO (.int (lev dL Pd-lev dL (k+1)))) (sO (.int (d6+1+i))),rfl,fS ls k y (sO (.int (lev dL (k+1+(i+1))-lev dL (k+1)))) (sO (.int (d6+1+i))),[],?_,_,rfl,rfl⟩
  have c:lev dL (k+1+(i+1))-lev dL (k+1)=lev dL Pd-lev dL (k+1)+ch A1:=by
   rw[show k+1+(i+1)=k+1+i+1 by exact rfl,J];lia
  rw[c];generalize hL:lev dL Pd-lev dL (k+1)=L
  by_cases F:L=0
  ·have u:=B.no Pd (Ni oZ cJ) bR aH;have a:x≠y:=λz=>u (by rw[q,z]);subst F;simp[a,p]
  ·simp[F,p]) (by
  rintro w hw s h ⟨d,rfl,rfl⟩
  obtain⟨_,rfl⟩:=Vz hw;obtain⟨x,r,t,q⟩:=lines j C c8;have o:=B.at_;rw[q]at o;have a:x=y:=(I x).mp (bZ o);subst a;have N:d6+1+((j-(k+1):Nat):Int)=fK:=cC
  have E:=Qaj t;rw[N]
  have A:lev dL (k+1+(0+(j-(k+1))))-lev dL (k+1)=0:=by
   rw[show k+1+(0+(j-(k+1)))=j by lia,B.lv];lia
  rw[A]
  exact⟨_,rfl,hY E⟩)
 simp[VQ,QM,Ve,M,f]
theorem KE{lo c:Int}(h:(J8 lo c n)[j]?=sO w):j<n/\w=.int (lo+fK*c):=by
 have a:=bX h;simp[J8]at a;show tL a;unfold J8 at h;rw[Nq,Dr a]at h;cases h;rfl
noncomputable abbrev hS(ls:eW)(k:Nat)(a j:bY):MSt:=[sO (.tup hW),eB k,a,j]
theorem Qld{ls:eW}{k j:Nat}(s:∀l∈ls,Be)(G:zI5)(A:k<=ls.length)(B:Ahd dL k j):JW [.tup hW,aC k] h=sO (aC j,h):=by
 refine QH (g:=[]) aB ?_ rfl;have v:=B.lt;have H:∀c,Qi7 (Qc (Qn Qag aL aK) (Qc (mUn Yt aK) (Qc (mUn Yt aK) Ql))) (hS ls k (sO w9) c) []=sO (J8 (d6-1) (-1) k,nO,[]):=λc=>QpJ rfl rfl rfl (Np (Nn A G) aE)
 have lines:∀i,i<k->∃x r,ls[i]?=sO lJ/\(ls.map cdL)[i]?=sO A1:=λi C=>by
  have f:i<ls.length:=by exact Ni C A
  obtain⟨x,r,e⟩:=s ls[i] (E4 f);have D:ls[i]?=sO lJ:=by rw[Nj f,e]
  exact⟨x,r,D,Bj D⟩
 have E:(J8 (d6-1) (-1) k).length=k:=hY J8
 have d:=Qbt (items:=J8 (d6-1) (-1) k) (b:=ZP 3) (body:=YI) (λn o h=>∃c,o=hS ls k (sO (.int (lev dL k-lev dL (k-n)))) c/\h=[]) gQ [] (J8 (d6-1) (-1) k) 0 (k-1-j) (hS ls k (sO w9) nO) [] ⟨nO,aP,rfl⟩ (by rw[E];omega) (by
  rintro i w C hw o h ⟨c,rfl,rfl⟩
  obtain⟨_,rfl⟩:=KE hw;obtain⟨x,r,p,y⟩:=lines (k-1-i) bR;have z:d6-1+fQ*-1=((k-1-i:Nat):Int):=aQ
  have m:=Qaj p;have q:=VT y;rw[NR,z];generalize I:((k-1-i:Nat):Int)=t at m;refine⟨hS ls k (sO (.int (lev dL k-lev dL (k-i)))) (bL t),rfl,hS ls k (sO (.int (lev dL k-lev dL (k-(i+1))))) (bL t),[],?_,_,rfl,rfl⟩
  have a:lev dL k-lev dL (k-(i+1))=lev dL k-lev dL (k-i)+ch A1:=by
   rw[show k-i=k-1-i+1 by lia,q,show k-(i+1)=k-1-i by lia];lia
  have F:=B.no (k-1-i) aH aH;have u:lev dL k-lev dL (k-i)+ch A1≠1:=by rw[<-a,show k-(i+1)=k-1-i by omega];lia
  rw[a];simp[m,u]) (by
  rintro w hw o h ⟨c,rfl,rfl⟩
  obtain⟨_,rfl⟩:=KE hw;obtain⟨x,r,p,y⟩:=lines j v;have z:d6-1+((k-1-j:Nat):Int)*-1=fK:=cC
  have m:=Qaj p;have q:=VT y;rw[z]
  have a:lev dL k-lev dL (k-(0+(k-1-j)))+ch A1=1:=by
   rw[show k-(0+(k-1-j))=j+1 by lia,q];have:=B.lv;lia
  rw[NR]at a ⊢
  exact⟨_,rfl,zX m a⟩)
 simp[KZ,QM,Ve,H,d]
theorem Qdn(x:Str):cd x=cd "end"↔x="end":=by
 rcases Vj (x:=x)with⟨rfl,a⟩|⟨rfl,a⟩|⟨rfl,a⟩|⟨rfl,a⟩|⟨⟨e,d,c,b⟩,a⟩<;>simp[a,Qc3, *]
theorem QeE(x:Str):cd x=cd "or"↔rC:=by
 rcases Vj (x:=x)with⟨rfl,a⟩|⟨rfl,a⟩|⟨rfl,a⟩|⟨rfl,a⟩|⟨⟨e,d,c,b⟩,a⟩<;>simp[a,Qm4, *]
theorem QiK{ls:eW}(a:∀l∈ls,Be)(b:zI5)(B:Beh dL k .en j):Jk [.tup hW,aC k] h=sO (aC j,h):=by
 refine QH (g:=[]) aB ?_ rfl;have e:∀h,QQ [.tup hW,aC k,.str "end"] h=sO (aC j,h):=λh=>Qal a (Nw (Np b aE)) Qdn (by rw[Qc3];exact B);simp[YC,QM,e]
theorem QqC{ls:eW}(a:∀l∈ls,Be)(b:zI5)(B:Beh dL k .oo j):XN [.tup hW,aC k] h=sO (aC j,h):=by
 refine QH (g:=[]) aB ?_ rfl;have e:∀h,QQ [.tup hW,aC k,.str "or"] h=sO (aC j,h):=λh=>Qal a (Nw (Np b aE)) QeE (by rw[Qm4];exact B);simp[WL,QM,e]
@[simp]theorem QrV(hw:mE)(c:pur p=true)(a:pur e=true)(f:pur b=true)(d:pur k=true):ZK [.tup [w,p,e,b],k] h=sO (.tup [w,p,k,iL],h):=by
 refine zR8;simp[Yw,QM]
@[simp]theorem QsV(hw:mE)(c:pur p=true)(a:pur e=true)(f:pur b=true)(d:pur k=true):Vm [.tup [w,p,e,b],k] h=sO (.tup [w,p,k,g7],h):=by
 refine zR8;simp[KW,QM]
@[simp]theorem QsN:wIx wR cT h=@om _ _ HN (atI qF i):=by unfold Zx;simp
@[simp]theorem Qra:wIx (Xy x) (.int 1) h=sO (.tup m6,h):=by unfold Xy;simp
@[simp]theorem QrS:wIx (Qdu b) cT h=@om _ _ HN (atI zy5 i):=by unfold Qdu;simp
@[simp]theorem QrL:wIx (Qbo q) w9 h=sO (tZ q,h):=by unfold Qbo;simp
@[simp]theorem Qre:wIx (Qbo q) (.int 1) h=sO (tJ,h):=by unfold Qbo;simp
noncomputable def bk(x:Pt):Bk:=bks uV dP
noncomputable def Vh(p:bM):W:=.lst zt0
@[simp]theorem QoZ:pur (Vh p)=true:=by
 unfold Vh;rw[Qqh];exact Jq _ (VZ λ_=>QpW)
@[simp]theorem QoY:wIx (Vh p) cT h=@om _ _ HN (atI zt0 i):=by unfold Vh;simp
structure SV(p:bM)(s:Spt):Prop where
 ex:∃x,zF4/\s.k<=dP/\(sP->∃r,zj7=sO (("again":Str)::r))
 way:∀q∈s.way,∃x,p[q.1]?=sO x/\q.2<dP
theorem Yz{p:bM}{i:Nat}(h:mD):atI qF fQ=sO (Xy x):=Hq h
theorem Qgv{p:bM}{i:Nat}(h:mD):atI zt0 fQ=sO (Qdu (bk x)):=Hq h
theorem QcX{b:Bk}{k t:Nat}(h:b.rws[k]?=sO (sO t))(a:nC=sO x):atI zy5 d6=sO (.lst zp5):=by
 rw[Q6,Nq,h];simp[rv,a]
theorem WI{p:bM}{s:Spt}(c:zF4)(d:sP\/s.k=dP):QT vC h=zd0:=by
 refine QH (g:=[]) aB ?_ rfl;show Fr e;have b:=Yz c;simp only at b d c
 by_cases a:head=true
 ·simp[V9,QM,QF,b,a]
 ·have f:k=dP:=by show hZ d z;exact absurd z a;exact z
  simp[V9,QM,QF,b,a,f]
theorem QaL{p:bM}{s:Spt}(c:zF4)(f:s.head=false)(d:zj7=sO l):QT vC h=sO (Zl l,h):=by
 refine QH (g:=[]) aB ?_ aB;show Fr m;have i:=Yz c;have j:=Qaj d;have e:=bX d;simp only at i f c j e;have b:¬d6=dP:=aQ
 have a:¬k=dP:=by exact NB e
 simp[V9,QM,QF,i,f,j,b,a]
@[simp]theorem QoH:Jt [] h=sO (QF ⟨[],0,0,false⟩,h):=by
 refine QH (g:=[]) aB ?_ aB;simp[Xs,QM,QF]
theorem QfP{ns:aO}:∀{j:Nat},ns.findIdx? (·==x)=sO j->(ns.map W.str).findIdx? (λy=>eqW y iX)=sO j:=by
 intro j h;rw[List.findIdx?_map];rw[<-h];congr 1
theorem Qfc{j:Nat}(f:(p.map (·.1)).findIdx? (·==nm)=sO j)(e:p.length<=100):ZG [Zx p,.str nm] h=sO (aC j,h):=by
 refine QH (g:=[]) aB ?_ rfl
 have b:=XM (fin:=V8) (mi:=Zb aG) (cp:=[nO]) (me:=Qn wIx aG aY) (σ:=[fZ,sO zh9]) (caps:=[]) (h:=[]) (items:=p.map Xy) zX0 rfl f9 (λw hw=>by
  show rQ x
  simp[Xy]) (by simp;exact X6 (Nw (Np e aE)))
 have d:(p.map Xy).map zX0=(p.map (·.1)).map W.str:=by simp[Xy,DC]
 rw[d]at b;simp only[V8]at b
 have ei:YM (.lst ((p.map (·.1)).map W.str)) [.str nm] []=sO (aC j,[]):=by
  unfold YM;simp only[lsW,Nk];rw[Km [] zh9 40 rfl To,KB [] _ 40 Ya (Nn Qcj aE),Nk,Nk,QfP f];rfl
 rw[ED]at b ei;simp[Xb,QM,b,ei]
noncomputable def Wt:Nat->Nat
 |0=>65330
 |i+1=>(4-i)*702
theorem GB(h:i+1<=q):Wt q<=C0:=by
 obtain⟨r,rfl⟩:∃r,q=r+1:=⟨q-1,aQ⟩
 show(4-r)*702<=(4-i)*702;exact Yak _ bR
theorem Qob(h:i<=4):700+Qkb i*(C0+2)<=Wt i:=by
 match i,h with
 |0,_=>decide
 |1,_=>decide
 |2,_=>decide
 |3,_=>decide
 |4,_=>decide
theorem Qjt:Wt i<=65330:=by
 match i with
 |0=>exact Nv _
 |i+1=>
  show(4-i)*702<=_;have:(4-i)*702<=4*702:=Yak _ qX;lia
noncomputable def cst(i:Nat)(l:Ln):Nat:=if oH then C0+2 else 1
noncomputable def rem(x:Pt)(i k:Nat):Nat:=((x.2.drop k).map (cst i)).sum
theorem Yl(h:m7):vY=cst i l+sQ k:=by
 obtain⟨a,rfl⟩:=Nd.mp h;unfold rem;rw[EY a,ND,Yar]
theorem Qas:∀{j k:Nat},k<j->k<dP->rem x i j<vY:=by
 intro j
 induction j with
 |zero=>
  intro _ h _;lia
 | succ j c=>
  intro k h a;have g:=Yl (i:=i) (Nj a);have l:1<=cst i x.2[k]:=by unfold cst;split<;>lia
  by_cases e:j=k
  ·subst e;lia
  ·by_cases b:j<dP
   ·have f:=c aH a;have d:=Yl (i:=i) (Nj b);exact Np (Nn lC (cL d)) f
   ·have:sQ j=0:=by unfold rem;rw[Du (Nn (hP b) cJ)];rfl
    lia
theorem Qgg:∀(ls:eW),(ls.map (cst i)).sum=ls.length+dcn ls*(C0+1)
 |[]=>by simp[dcn]
 |l::ls=>by
  have a:=Qgg (i:=i) ls;unfold dcn at a ⊢;rw[ND,Yar,a,Om,NQ,cst]
  by_cases h:oH
  ·rw[bH h,bH h,Nat.add_mul,Nat.one_mul];lia
  ·rw[bQ h,bQ h,show List.countP U8 ls+0=List.countP U8 ls from rfl];lia
theorem Qn9(e:dP<=700)(hd:Cb<=Qkb i)(d:i<=4):vY<=Wt i:=by
 have c:rem x i 0<=Wt i:=by
  unfold rem;rw[List.drop_zero,Qgg];have:=Qob d;have:Cb*(C0+1)<=Qkb i*(C0+2):=Lo hd (Nw (El aE _));lia
 by_cases a:0<k
 ·by_cases b:0<dP
  ·have:=Qas (x:=x) (i:=i) a b;exact Nw (Ni this c)
  ·unfold rem;rw[Du (Nw (Np (hP b) a))];simp
 ·rw[show k=0 by exact Dz (hP a) gX];exact c
noncomputable def Qgy(p:bM)(i k:Nat):Nat:=match p[i]? with
 |dY x=>vY
 |none=>0
theorem XT(h:mD):Qgy p i k=vY:=by unfold Qgy;rw[h]
def RL(p:bM):Prop:=∀i k,Qgy p i k<=Wt i
theorem Qf0(b:jM):RL p:=by
 intro i k;unfold Qgy;split
 ·rename_i x a;have d:=bX a;have c:=b.len;exact Qn9 (b.sz x (j7 i a)) (b.dos i x a) aH
 ·exact NS _
noncomputable def Qdt(p:bM)(w:d9):Nat:=(w.map λq=>1+zB6).sum
theorem W9:Qdt p (w++[q])=Qdt p w+(1+zB6):=by simp[Qdt]
noncomputable def rk(p:bM)(s:Spt):Nat:=if sP then 0 else 1+Qgy p s.part s.k+Qdt p s.way
theorem Wq{part k:Nat}:rk p eJ=1+Qgy p part k+Qdt p way:=by unfold rk;rw[if_neg aB]
theorem Qk9{part k:Nat}:rk p xL=0:=by unfold rk;rw[fO]
structure SW(s:Spt):Prop where
 up:∀(j:Nat) (q:hF),s.way[j]?=sO q->j<=q.1
 le:s.way.length<=s.part
structure Mono(p:bM)(s:Spt)(L:cD):Prop where
 one:∀t,L=[t]->rk p t<rk p s
 two:∀a b,L=[a,b]->a.k≠b.k
theorem Qip:Mono p s []:=⟨λ_ h=>gL h,λ_ _ h=>gL h⟩
theorem Wk(h:rk p t<rk p s):Mono p s [t]:=⟨λu e=>by simp at e;rw[<-e];exact h,λ_ _ e=>gL e⟩
theorem QcH(h:a.k≠b.k):Mono p s [a,b]:=⟨λu e=>gL e,λx y e=>by simp at e;rw[<-e.1,<-e.2];exact h⟩
theorem GI{part k m:Nat}(a:kF)(c:k<dP)(b:k<m):Mono p eJ [zv1]:=Wk (by
 rw[Wq,Wq,XT a,XT a];have:=Qas (x:=x) (i:=part) b c
 lia)
theorem Qan{part k m:Nat}:Mono p eJ [⟨way,part,m,true⟩]:=Wk (by rw[Wq,Qk9];exact Ni (Ni aE cJ) cJ)
theorem Qk7(d:RL p){part k j:Nat}(a:kF)(b:m7)(hd:oH)(c:part+1<=j):Mono p eJ zp2:=Wk (by
 rw[Wq,Wq,W9,XT (p:=p) (i:=part) (k:=k) a,Yl b];have g:=d (j) (0);have f:=GB c;have e:cst part l=Wt (part+1)+2:=by unfold cst;rw[if_pos hd]
 rw[XT (k:=k+1) a];show 1+Qgy p j 0+(Qdt p way+(1+rem x part (k+1)))<_
 lia)
theorem Qf4{part k:Nat}:Mono p jp3 [RM]:=Wk (by
 rw[Wq,Wq,W9]
 lia)
noncomputable def QlH(p:bM)(l:Ln):qJ:=if oH then(p.map (·.1)).findIdx? (·==l.getD 1 "")else nO
inductive Nx(p:bM):Spt->cD->Prop where
 |head {way:d9} {part k en:Nat} {x:Pt} {l:Ln} (hx:kF) (hl:m7) (hc:cdL l=.ag) (B:Beh uV k .en en):Nx p xL [Rz,rP k]
 |fin0 {way:d9} {part k:Nat} {x:Pt} (hw:way=[]) (hx:kF) (hl:x.2[k]?=nO):Nx p eJ []
 |fin {way r:d9} {q:hF} {part k:Nat} {x:Pt} (hw:way=r++[q]) (hx:kF) (hl:x.2[k]?=nO):Nx p eJ [RM]
 |ei {way:d9} {part k md:Nat} {x:Pt} {l:Ln} (hx:kF) (hl:m7) (hc:cdL l=.ei) (B:Beh uV k .oo md):Nx p eJ [rP k,⟨way,part,md+1,false⟩]
 |ag {way:d9} {part k:Nat} {x:Pt} {l:Ln} (hx:kF) (hl:m7) (hc:cdL l=.ag):Nx p eJ [xL]
 |oo {way:d9} {part k en:Nat} {x:Pt} {l:Ln} (hx:kF) (hl:m7) (hc:cdL l=.oo) (B:Beh uV k .en en):Nx p eJ [Rz]
 |enA {way:d9} {part k fs:Nat} {x:Pt} {l l':Ln} (hx:kF) (hl:m7) (hc:cdL l=.en) (A:Ahd uV k fs) (hf:x.2[fs]?=sO l') (hf':cdL l'=.ag):Nx p eJ jt0
 |enE {way:d9} {part k fs:Nat} {x:Pt} {l l':Ln} (hx:kF) (hl:m7) (hc:cdL l=.en) (A:Ahd uV k fs) (hf:x.2[fs]?=sO l') (hf':cdL l'=.ei):Nx p eJ [rP k]
 |dd {way:d9} {part k j:Nat} {x:Pt} {l:Ln} (hx:kF) (hl:m7) (hc:cdL l=.ot) (hd:oH) (hj:Bn):Nx p eJ zp2
 |ot {way:d9} {part k:Nat} {x:Pt} {l:Ln} (hx:kF) (hl:m7) (hc:cdL l=.ot) (hd:U8 l=false):Nx p eJ [rP k]
@[simp]theorem Qqi{a:d9}:JC (a.map Qbo)=true:=Jq _ QlJ
@[simp]theorem Qrx:Ye (a++[x]) nO sY=a:=by
 unfold Ye;have c:HT.sIx zF5 0 nO=0:=HT.sIx_none _ _
 have b:HT.sIx zF5 zF5 sY=a.length:=by
  unfold HT.sIx;simp;lia
 rw[c,b];simp
theorem Qpj(w:d9)(h:w≠[]):∃r q,w=r++[q]:=jc8 w
def US(p:bM)(s:Spt)(L:cD):Prop:=(∀t∈L,SV p t/\SW t)/\(Mono p s L/\Nx p s L)/\(∀h:MH,QJ vC h=xI)/\∀h:MH,ZU T4 h=xI
theorem QkO{part k:Nat}(hw:∀q∈way,∃x,p[q.1]?=sO x/\q.2<dP)(b:kF)(c:k<=dP)(a:SW ⟨way,part,d,e⟩):SV p eJ/\SW eJ:=⟨⟨⟨x,b,c,aP⟩,hw⟩,⟨a.up,a.le⟩⟩
theorem bN{L:cD}(e:ZA T4 []=zu1):ZU T4 h=xI:=QH (g:=[]) aB e aB
theorem bP{L:cD}(e:Zo vC []=zu1):QJ vC h=xI:=QH (g:=[]) aB e aB
theorem bI{ls:eW}{L:cD}(e:Z3 [.tup hW,QF s] []=zu1):Zq [.tup hW,QF s] h=xI:=QH (g:=[]) aB e aB
theorem QgI{way:d9}{part k:Nat}(m:jM)(q:SV p xL)(b:SW xL):∃L,Mc/\US p xL L:=by
 obtain⟨x,a,A,B⟩:=q.ex;have hw:=q.way;simp only at a A hw;obtain⟨r,c⟩:=B rfl;simp only at c;have s:=NN.mpr ⟨part,a⟩;have f:=m.ok part x a;have g:∀l∈x.2,zL4:=λl z=>VC (f l z);have e:=m.sz x s;have F:=Qaw (m.bal x s);rw[Ny]at F;obtain⟨t,w,en,D,C,d⟩:=F.ag k (by rw[Nq,c];show sO (cd "again")=_;rw[We]);have n:en<dP:=by have:=zb7 d;show j8
 have j:=bX c;have G:∀h,Jk [.tup m6,aC k] h=sO (.int en,h):=λh=>QiK g (Nw (Np e aE)) d;have v:=Yz a;have E:=Qgv a;have H:atI Rj d6=sO (.lst [aC k,aC w,.int en]):=QcX D C;have i:k<en:=d.lt;refine⟨[Rz,rP k],aP,?_,⟨QcH (show en+1≠k+1 by exact EC (E6 i _)),.head a c We d⟩,gR,gR⟩
 ·show tK u o
  show v3 o
  ·exact QkO hw a n b
  ·exact QkO hw a j b
 ·refine bP ?_;simp[Zo,QM,QF,v,G]
 ·show rD;simp[ZA,QM,QF,ZQ,Qa2,v,E,H]
theorem GH{part k:Nat}(o:jM)(n:SV p eJ)(c:SW eJ)(e:kF)(d:k=dP):∃L,Mc/\US p eJ L:=by
 have hw:=n.way;simp only at hw;have f:=Yz e;have en:∀h,QT [Zx p,QF eJ] h=zd0:=λh=>WI e (.inr d);simp only[QF]at en
 by_cases a:way=[]
 ·subst a
  have b:∀h,Ji [QF ⟨[],part,k,false⟩] h=sO (cK,h):=λh=>by
   refine QH (g:=[]) aB ?_ aB;simp[VY,QM,QF]
  simp only[QF]at b;refine⟨[],aP,aP,⟨Qip,.fin0 rfl e (NW (cL d))⟩,gR,gR⟩
  show jc9
  ·show rD;simp[ZA,QM,QF,ZQ,Qa2,f,d]
 ·obtain⟨r,q,rfl⟩:=Qpj way a;obtain⟨y,m,i⟩:=hw q aB
  have b:∀h,Ji [QF jp3] h=sO (.lst [QF RM],h):=λh=>by
   refine QH (g:=[]) aB ?_ aB;simp[VY,QM,QF]
  simp only[QF]at b;refine⟨[RM],aP,?_,⟨Qf4,.fin rfl e (NW (cL d))⟩,gR,gR⟩
  ·intro u l;show hX l;exact⟨⟨⟨y,m,by show q.2+1<=_;exact i,aP⟩,λz a=>hw z (by simp;exact eH a)⟩,⟨λj z a=>c.up j z (by show(r++[q])[j]?=_;rw[NJ (bX a)];exact a),c.up r.length q aB⟩⟩
  show jc9
  ·show rD;simp[ZA,QM,QF,ZQ,Qa2,f,d]
theorem Qcy(h:LineOk bs ws b lJ)(hd:x="do"):∃nm,r=[nm]/\nm∈b:=by
 subst hd;generalize a:(("do":Str)::r)=l at h;cases h with
 |plain h=>cases h<;>simp at a
 |«do» h=>simp at a;exact⟨_,a,h⟩
 |blk h=>rcases h with rfl|rfl|rfl|rfl<;>simp at a
 |back h=>simp at a
theorem QpF(h:cd x=.ag):qU:=by
 rcases Vj (x:=x)with⟨rfl,a⟩|⟨rfl,a⟩|⟨rfl,a⟩|⟨rfl,a⟩|⟨_,a⟩
 ·show bK a h
 ·rfl
 ·show bK a h
 ·show bK a h
 ·show bK a h
theorem QlZ{ns:aO}(h:nm∈ns):∃j,ns.findIdx? (·==nm)=sO j/\j<ns.length:=by
 cases e:ns.findIdx? (·==nm)with
 |none=>
  rw[D7]at e;have:=e nm h;show iZ
 |some j=>
  refine⟨j,rfl,?_⟩;rw[EN]at e;exact e.1
theorem Qkx(P:zj8)(f:W->W):∀(rest a:aI) (d:MSt),P d->(∀w∈rest,∀d,P d->∃c,b w d h=sO c/\P c/\me c h=oR f)->zq3->V6 fin items nO b YF me rest a d h=fin (a++rest.map f) h:=by
 intro rest
 induction rest with
 |nil=>
  intro a d _ _ _;unfold V6;rw[nZ];simp
 |cons w rest i=>
  intro a d l e n;have m:zp0:=cN n
  obtain⟨c,p,g,o⟩:=e w NF d l;unfold V6;rw[nZ,p,Nk];show(sO (true,h)).bind _=_;rw[Nk];simp only[o,Nk];rw[if_pos aH,i (a++[f w]) c g (yN j e) sC];simp
theorem Qe0(P:zj8)(f:W->W)(g:zt7)(i:P (Qjl cp σ))(d:∀w∈items,∀c,P c->∃a,b w c h=sO a/\P a/\me a h=oR f)(e:RU):Z4 fin mi cp b YF me σ h=fin (items.map f) h:=by
 unfold Z4;rw[g,Nk];rw[Qkx P f items [] _ i d (bZ e)];simp
noncomputable def QoR:W->W
 |.tup (a::_)=>a
 |w=>w
theorem WX{ns:aO}(n:ns.Nodup)(h:nm∈ns.drop (m+1))(f:ns.findIdx? (·==nm)=sO j):m+1<=j:=by
 show Mf g h;rw[YaH]at g;show P4 d e g;rw[EN]at f;obtain⟨c,b,_⟩:=f;simp at b;have l:=D8.mp n
 by_cases a:j<m+1+i
 ·exact absurd (b.trans e.symm) (l j (m+1+i) c d a)
 ·exact Nn cJ (hP a)
noncomputable abbrev nS(p:bM)(way:d9)(part k:Nat)(x:Pt)(y:Str):MSt:=[fZ,tB,sO (.tup [.tup TJ,.int part,aC k,iL]),sO (.tup TJ),sO (.int part),eB k,sO za9,sO (.tup m6),nE y]
noncomputable abbrev iS(way:d9)(part k:Nat)(x:Pt)(y:Str):MSt:=[sO (.tup m6),sO (.tup [.tup TJ,.int part,aC k,iL]),eB k,nE y]
theorem skS{r rest:SM}(a:Qg i σ h=sO (c4 y,h))(b:¬y=c):QG (Ja ja2 r QR) rest σ h=rest σ h:=zX a b
theorem skA{r rest:SM}{t:MT}(a:Qg i σ h=sO (c4 y,h))(b:¬y=c):QG (Ja (Vy ja2 t) r QR) rest σ h=rest σ h:=zX a b
theorem QfR{way:d9}{part k:Nat}(O:jM)(hs:SV p eJ)(f:SW eJ)(d:kF)(g:m7):∃L,Mc/\US p eJ L:=by
 have hw:=hs.way;simp only at hw;have hm:=NN.mpr ⟨part,d⟩;have R:=O.ok part x d;have C:∀l∈x.2,zL4:=λl g=>VC (R l g);have H:=O.sz x hm;have F:=Qaw (O.bal x hm);rw[Ny]at F;have c:=bX g;obtain⟨y,r,rfl⟩:=C l (j7 k g);have M:(x.2.map cdL)[k]?=sO (cd y):=Bj g
 have ep:=Yz d;have er:=Qgv d;have el:=Qaj g;have n:∀h,QT [Zx p,QF eJ] h=sO (Zl (y::r),h):=λh=>QaL d rfl g;simp only[QF]at n;have nk:¬d6=dP:=aQ
 have aa:¬k=dP:=by exact NB c
 have nl:Xm (Zl (y::r))=false:=rfl;have Z:∀m,m<=dP->SV p zv1/\SW zv1:=λm hm=>QkO hw d hm f;have one:∀(u:Spt),(SV p u/\SW u)->∀t∈[u],SV p t/\SW t:=λu hu t ht=>by rw[NG.mp ht];exact hu
 have up:y≠"do"->∀(L:cD),(∀h,Zq [.tup m6,.tup [.tup TJ,.int part,aC k,iL]] h=xI)->∀h,QJ [Zx p,QF eJ] h=xI:=λhd L e h=>by
  refine bP ?_;simp[Zo,QM,QF,ep,n,nl,hd,e]
 have G:ZA [Zx p,Vh p,QF eJ] []=Ql8 (ZC (nS p way part k x y) []):=by
  simp[ZA,QM,QF,ZQ,Qa2,ep,el,nk,aa]
 have N:Z3 [.tup m6,QF eJ] []=Ql8 (Zg (iS way part k x y) []):=by
  simp[Z3,QM,QF,el]
 rcases Vj (x:=y)with⟨rfl,o⟩|⟨rfl,o⟩|⟨rfl,o⟩|⟨rfl,o⟩|⟨⟨n1,n2,n3,n4⟩,o⟩
 ·obtain⟨t,D,en,Y,X,v⟩:=F.ei k zJ2;have af:D<dP:=by have:=zb7 v;show j8
  have eo:∀h,XN [.tup m6,aC k] h=sO (aC D,h):=λh=>QqC C (Nw (Np H aE)) v;have P:atI Rj d6=sO (.lst [aC k,aC D,.int en]):=QcX Y X;have I:k<D:=v.lt;refine⟨[rP k,rP D],aP,?_,⟨QcH (show k+1≠D+1 by exact NB (E6 I _)),.ei d g o v⟩,up aB _ gR,gR⟩
  ·intro u hu;simp at hu
   rcases hu with rfl|rfl
   ·exact Z _ c
   ·exact Z _ af
  ·refine bI (s:=eJ) ?_;rw[N];simp[Zg,QF,eo]
  ·show rD;rw[G];simp[ZC,QF,er,P]
 ·refine⟨[xL],aP,one _ ⟨⟨⟨x,d,by show k<=_;exact Nw c,λ_=>fF r g⟩,hw⟩,⟨f.up,f.le⟩⟩,⟨Qan,.ag d g o⟩,up aB _ gR,gR⟩
  ·refine bI (s:=eJ) ?_;rw[N,Zg,skS rfl aB,skS rfl aB];simp[QF]
  ·show rD;rw[G,ZC,skS rfl aB,skS rfl aB];simp[QF]
 ·obtain⟨t,fs,en,Y,X,v⟩:=F.oo k zJ2;have aj:en<dP:=by have:=zb7 v;show j8
  have ee:∀h,Jk [.tup m6,aC k] h=sO (.int en,h):=λh=>QiK C (Nw (Np H aE)) v;have P:atI Rj d6=sO (.lst [.int fs,aC k,.int en]):=QcX Y X;have I:k<en:=v.lt;refine⟨[Rz],aP,one _ (Z _ aj),⟨GI d c (Ni I cJ),.oo d g o v⟩,up aB _ gR,gR⟩
  ·refine bI (s:=eJ) ?_;rw[N,Zg,skS rfl aB];simp[QF,ee]
  ·show rD;rw[G,ZC,skS rfl aB];simp[QF,er,P]
 ·obtain⟨t,fs,D,Y,X,v,h4⟩:=F.en k zJ2;have eh:∀h,JW [.tup m6,aC k] h=sO (.int fs,h):=λh=>Qld C (Nw (Np H aE)) (Nw c) v;have P:atI Rj d6=sO (.lst [.int fs,aC D,aC k]):=QcX Y X;have J:fs<dP:=by have:=v.lt;exact NT this c
  obtain⟨z,r',hz⟩:=C x.2[fs] (E4 J);have A:x.2[fs]?=sO (z::r'):=by rw[Nj J,hz]
  have ef:=Qaj A;have ak:(x.2.map cdL)[fs]?=sO (cd z):=Bj A
  by_cases ha:z="again"
  ·subst ha;refine⟨jt0,aP,one _ ⟨⟨⟨x,d,by show fs<=_;exact Nw J,λ_=>fF r' A⟩,hw⟩,⟨f.up,f.le⟩⟩,⟨Qan,.enA d g o v A We⟩,up aB _ gR,gR⟩
   ·refine bI (s:=eJ) ?_;rw[N,Zg,skS rfl aB,skS rfl aB,skS rfl aB];simp[QF,eh,ef]
   ·show rD;rw[G,ZC,skS rfl aB,skS rfl aB,skS rfl aB];simp[QF,er,P,ef]
  ·refine⟨[rP k],aP,one _ (Z _ c),⟨GI d c oZ,.enE d g o v A (by rcases h4 with q|q<;>rw[ak]at q<;>first|exact N2 q|exact absurd (QpF (N2 q)) ha)⟩,up aB _ gR,gR⟩
   ·refine bI (s:=eJ) ?_;rw[N,Zg,skS rfl aB,skS rfl aB,skS rfl aB];simp[QF,eh,ef,ha]
   ·show rD;rw[G,ZC,skS rfl aB,skS rfl aB,skS rfl aB];simp[QF,er,P,ef,ha]
 ·by_cases hd:y="do"
  ·obtain⟨nm,rfl,S⟩:=Qcy (R _ (j7 k g)) hd;subst hd;obtain⟨j,hj,ah⟩:=QlZ (FS S);have Q:=WX O.nd S hj;have E:=O.len;have en:∀h,ZG [Zx p,.str nm] h=sO (aC j,h):=λh=>Qfc hj (Nw (Np E aE));have U:j<p.length:=by simpa using ah
   have s1:way.length+1<=sizeLine:=X6 (by have:=f.le;have:=bX d;simp only at *;lia)
   have ec:∀(σ:MSt),σ[0]?=sO q8->Z4 V8 (Zb aG) nL qG YF aG σ []=V8 ((p.map Xy).map QoR) []:=λσ h0=>by
    refine Qe0 (λτ=>τ.length=2) QoR (by simp[Zb,Qg,h0,K9,Zx]) rfl (λw hw τ ab=>?_) (by simp;exact X6 (Nw (Np E aE)));show rQ z
    match τ,ab with
    |[a,b],_=>exact⟨[sO (.str z.1),sO (.tup (z.2.map Zl))],rfl,rfl,rfl⟩
   have ae:(p.map Xy).map QoR=(p.map (·.1)).map W.str:=by simp[Xy,QoR,DC]
   have ei:YM (.lst ((p.map (·.1)).map W.str)) [.str nm] []=sO (aC j,[]):=by
    unfold YM;simp only[lsW,Nk];rw[Km [] zh9 40 rfl To,KB [] _ 40 Ya (Nn Qcj aE),Nk,Nk,QfP hj];rfl
   rw[ae]at ec;rw[ED]at ec ei;simp only[V8]at ec;refine⟨zp2,aP,one _ ⟨⟨⟨p[j],Nj U,NS _,aP⟩,?_⟩,?_⟩,⟨Qk7 (Qf0 O) d g zn6 Q,.dd d g o zn6 (by show(if U8 (["do",nm]:Ln)=true then _ else nO)=sO j;rw[if_pos zn6];exact hj)⟩,gR,gR⟩
   ·show tK q B
    rcases B with B|rfl
    ·exact hw q B
    ·exact⟨x,d,c⟩
   ·refine⟨aM i q B,by have:=f.le;simp at this ⊢;exact Nn (E5 this _) Q⟩;have ai:=bX B;simp at ai;have T:=f.le;simp only at T B
    by_cases hi:i<way.length
    ·rw[NJ hi]at B;exact f.up i q B
    ·have:i=way.length:=aQ
     subst this;show hX B;exact T
   ·refine bP ?_;simp[Zo,QM,QF,ep,n,nl,en,s1,Qbo]
   ·show rD;rw[G,ZC,skS rfl aB,skS rfl aB,skS rfl aB,skA rfl aB];simp[QF,s1,Qbo,ep,el];rw[ec _ rfl];simp[ei]
  ·refine⟨[rP k],aP,one _ (Z _ c),⟨GI d c oZ,.ot d g o (by show(y==("do":Str))=false;simpa using hd)⟩,up hd _ gR,gR⟩
   ·refine bI (s:=eJ) ?_;rw[N,Zg,skS rfl n1,skS rfl n3,skS rfl n2,skA rfl n4];simp[QF]
   ·show rD;rw[G,ZC,skS rfl n1,skS rfl n3,skS rfl n2,skA rfl n4,skS rfl hd];simp[QF]
theorem Qlp(d:jM)(b:SV p s)(a:SW s):∃L,Mc/\US p s L:=by
 show Fr e;cases head with
 |true=>exact QgI d b a
 |false=>
  obtain⟨x,c,f,_⟩:=b.ex;simp only at c f
  by_cases z:k=dP
  ·exact GH d b a c z
  ·exact QfR d b a c (Nj aH)
theorem KD:∀(N:Nat) (l:aZ),l.Nodup->(∀x∈l,x<N)->l.length<=N
 |0,[],_,_=>Nv _
 |0,x::l,_,h=>absurd (h x NF) (NZ.mpr gX)
 | N+1,l,b,h=>by
  have h1:=KD N (l.erase N) (b.erase N) (λx a=>by
   have:=h x (List.mem_of_mem_erase a);have:=((b.mem_erase_iff).mp a).1
   lia)
  rw[List.length_erase]at h1;split at h1<;>lia
section
variable{N:Nat}{bs ws:aO}{p:bM}
theorem Qg2(c:gC)(d:mD)(e:l∈x.2)(hd:Bn):i+1<=j/\oH:=by
 unfold QlH at hd;split at hd
 ·rename_i a;obtain⟨y,r,rfl⟩:=VC (c.ok i x d l e);obtain⟨nm,rfl,b⟩:=Qcy (c.ok i x d _ e) (by simpa[U8]using a);exact⟨WX c.nd b hd,a⟩
 ·cases hd
inductive Chn(p:bM):d9->zj9 where
 |nil:Chn p [] 0
 |snoc {r way:d9} {i k j:Nat} {x:Pt} {l:Ln} (hw:way=r++[(i,k)]) (c:Chn p r i) (hx:mD) (hl:m7) (hj:Bn):Chn p way j
structure Rc(p:bM)(s:Spt):Prop where
 v:SV p s
 w:SW s
 c:zI6 s
theorem Qnm(h:Nx p s L)(c:zI6 s):∀t∈L,zI6 t:=by
 cases h with
 |head=>show tK t a;rcases a with rfl|rfl<;>exact c
 |fin0=>show tK t a
 | @fin way r q part k x hw d f=>
  intro t a;show hX a;cases c with
  |nil=>simp at hw
  |@snoc u _ i w _ o v b n g j l=>
   rw[hw]at b;obtain⟨rfl,e⟩:=List.append_inj' b rfl;cases e;exact n
 |ei=>show tK t a;rcases a with rfl|rfl<;>exact c
 |ag=>intro t a;show hX a;exact c
 |oo=>intro t a;show hX a;exact c
 |enA=>intro t a;show hX a;exact c
 |enE=>intro t a;show hX a;exact c
 |dd d f y hd m=>intro t a;show hX a;exact .snoc rfl c d f m
 |ot=>intro t a;show hX a;exact c
theorem Wi(h:k<=j)(a:j<=dP):rem x i j<=vY:=by
 by_cases e:k=j
 ·rw[e];exact Nv _
 ·exact Nw (Qas aH aH)
inductive Vl(p:bM):Nat->d9->Nat->Nat->zj9 where
 |here {i k:Nat} {x:Pt} (hx:mD) (hk:k<=dP):Vl p i [] i k (1+vY)
 |down {i k0 j part k v:Nat} {x:Pt} {l:Ln} {w:d9} (hx:mD) (hl:x.2[k0]?=sO l) (hj:Bn) (a:Hx j):Vl p i ((i,k0)::w) part k (v+(1+sQ k0))
theorem QnF(g:gC)(d:RL p){i part k v:Nat}(a:Hx i):1<=v/\v<=1+Wt i:=by
 induction a with
 |@here i k x b q=>
  have:=d i k;rw[XT b]at this;lia
 |@down i c j part k v x l w b e f a o=>
  obtain⟨n,m⟩:=Qg2 g b (j7 c e) f;have r:=GB n;have h:=d i c;rw[XT b,Yl e,cst,bH m]at h;lia
theorem Qmy(G:gC)(P:RL p){i part k v:Nat}(a:Hx i):∀{b n u:Nat} {w':d9},Vl p i w' b n u->v=u->w=w'/\part=b/\k=n:=by
 have r:∀{i d j part k v:Nat} {x:Pt} {l:Ln} {w:d9},mD->x.2[d]?=sO l->Bn->Hx j->sQ d+2<=v+(1+sQ d)/\v+(1+sQ d)<=rem x i d:=by
  intro i d j part k v x l w f m q a;obtain⟨R,Q⟩:=Qg2 G f (j7 d m) q;have S:=GB R;obtain⟨I,H⟩:=QnF G P a;rw[Yl m,cst,bH Q];lia
 have s:∀{i k d j b n v:Nat} {x:Pt} {l:Ln} {w:d9},mD->k<=dP->x.2[d]?=sO l->Bn->Vl p j w b n v->1+vY=v+(1+sQ d)->False:=by
  intro i k d j b n v x l w f y m q a e;obtain⟨I,H⟩:=r f m q a;have E:=bX m
  by_cases z:k<=d
  ·have:=Wi (x:=x) (i:=i) z (Nw E);lia
  ·have:=Wi (x:=x) (i:=i) (show d+1<=k by exact Iq.mp z) y;lia
 induction a with
 | @here i k x f y=>
  intro b n u w' F e;cases F with
  |@here _ _ B c o=>
   show bK f c;refine⟨rfl,rfl,?_⟩
   rcases FC k n with z|z|z
   ·have:=Qas (x:=x) (i:=i) z (Ni z o);lia
   ·exact z
   ·have:=Qas (x:=x) (i:=i) z (Ni z y);lia
  |@down _ t M _ _ v1 B L J c g h A=>
   show bK f c;exact(s f y g h A e).elim
 | @down i d j part k v x l w f m q a O=>
  intro b n u w' F e;cases F with
  |@here _ _ B c o=>
   show bK f c;exact(s f o m q a e.symm).elim
  | @down _ t M _ _ v1 B L J c g h A=>
   show bK f c;obtain⟨I,H⟩:=r f m q a;obtain⟨U,T⟩:=r f g h A;have D:=bX m;have C:=bX g
   have:d=t:=by
    rcases FC d t with z|z|z
    ·have:=Wi (x:=x) (i:=i) (zc0 d t) (Nw C);lia
    ·exact z
    ·have:=Wi (x:=x) (i:=i) (zc0 t d) (Nw D);lia
   subst this;show bK m g;show bK q h;obtain⟨rfl,rfl,rfl⟩:=O A aH;exact AR
theorem QiP(c:Chn p way i):∀{w:d9} {part k v:Nat},Hx i->Vl p 0 (way++w) part k (v+Qdt p way):=by
 induction c with
 |nil=>intro w part k v a;simpa[Qdt]using a
 |@snoc r way i b j x l hw c d f g e=>
  intro w part k v a;have:=e (.down d f g a);rw[hw,W9,XT d];rw[FF,List.cons_append,DZ];rw[show v+(Qdt p r+(1+sQ b))=v+(1+sQ b)+Qdt p r by lia];exact this
noncomputable def QkP(p:bM)(s:Spt):Nat:=2*(1+Qgy p s.part s.k+Qdt p s.way)+if sP then 1 else 0
theorem QhH(u:gC)(r:RL p)(h:jX)(h':Rc p d)(e:QkP p s=QkP p d):s=d:=by
 obtain⟨x,l,t,_⟩:=h.v.ex;obtain⟨A,f,g,_⟩:=h'.v.ex;have a:=QiP h.c (.here l t);have y:=QiP h'.c (.here f g);unfold QkP at e;rw[XT l,XT f]at e
 have i:s.head=d.head:=by
  cases z:s.head<;>cases o:d.head<;>rw[z,o]at e<;>simp at e ⊢<;>lia
 rw[i]at e;obtain⟨j,n,m⟩:=Qmy u r a y aH;simp only[Dd]at j;show iO w q k b s;show iO B C D E d;simp only at j n m i;subst j n m i;rfl
theorem Qlh(l:RL p)(h2:SW s)(hw:s.way.length<=4):QkP p s<280010:=by
 have t:=l s.part s.k;have n:=Qjt (i:=s.part)
 have key:∀(j:Nat) (q:hF),s.way[j]?=sO q->1+zB6<=1+Wt j:=λj q e=>by
  have u:=l q.1 (q.2+1);have o:=h2.up j q e;cases j with
  |zero=>have:=Qjt (i:=q.1);show _<=1+65330;lia
  |succ j=>have:=GB (i:=j) (q:=q.1) o;lia
 have r:Qdt p s.way<=71700:=by
  unfold Qdt;generalize s.way=w at key hw
  match w,hw with
  |[],_=>simp
  |[a],_=>
   have f:=key 0 a rfl;simp[Wt]at f ⊢;exact Nw (Np f aE)
  |[a,b],_=>
   show zq9;simp[Wt]at f g ⊢;lia
  |[a,b,c],_=>
   show zq9;have h:=key 2 c rfl;simp[Wt]at f g h ⊢;lia
  |[a,b,c,d],_=>
   show zq9;have h:=key 2 c rfl;have m:=key 3 d rfl;simp[Wt]at f g h m ⊢;lia
 unfold QkP;split<;>lia
theorem QsY(b:gC)(h:jX):s.way.length<=4:=by
 obtain⟨x,a,_⟩:=h.v.ex;have e:=bX a;have d:=b.len;have c:=h.w.le;lia
theorem Qjf(f:gC)(d:RL p){L:cD}(i:L.Nodup)(h:∀s∈L,jX):L.length<=280010:=by
 have:=KD 280010 (L.map (QkP p)) ?_ ?_
 ·rwa[Ny]at this
 ·rw[List.Nodup,DE];refine Fk (λ{a b} l j ne e=>ne (QhH f d (h a l) (h b j) e)) i
 ·intro x g;show i5 s c g;exact Qlh d (h s c).w (QsY f (h s c))
#print "-"
noncomputable def trS(s:Spt):Tr:=.t [.t (s.way.map λq=>.t Tl),.i s.part,.i s.k,.i (if s.head then 1 else 0)]
theorem QmA:∀(a:d9),(a.map Qbo).mapM (UO 6)=sO (a.map λq=>Tr.t Tl):=by
 intro a
 induction a with
 |nil=>
  exact rfl
 |cons q a b=>
  rw[ND,Ir,b];rfl
theorem Qa5:nrm iB=sO tM:=by
 show UO 8 (.tup zR5)=_;simp only[UO,Ir,Yaq,QmA];rfl
theorem QeF(h:trS a=trS b):a=b:=by
 obtain⟨w,q,k,hd⟩:=a;show iO d g j c b;unfold trS at h;show jl0 h;show iO o n m l h
 have u:w=d:=by
  refine YaN (f:=λq:hF=>Tr.t Tl) (jZ x y e)|>.mp o
  show jl0 e;exact YaZ (LK e.1) (LK e.2)
 have s:q=g:=LK n;have r:k=j:=LK m;have p:hd=c:=by cases hd<;>cases c<;>simp at l ⊢
 subst u s r p;rfl
theorem QjS(h:nrm (QF a)=sO (trS b)):a=b:=by
 rw[Qa5]at h;exact QeF (N2 h)
noncomputable instance sptDec:DecidableEq Spt:=jd6
open Classical in
noncomputable def nx(p:bM)(s:Spt):cD:=if h:∃L,Mc/\US p s L then h.choose else[]
section
variable{bs ws:aO}{p:bM}
theorem QdX(b:jM)(a:jX):Hr<=2/\US p s (nx p s):=by
 have h:=Qlp b a.v a.w;unfold nx;rw[dif_pos h];exact h.choose_spec
theorem Qk8(d:jM)(a:jX)(h:t∈A8):Rc p t:=by
 obtain⟨_,b,e,_⟩:=QdX d a;exact⟨(b t h).1,(b t h).2,Qnm e.2 a.c t h⟩
noncomputable abbrev sp0:Spt:=⟨[],0,0,false⟩
theorem rc0(a:jM):Rc p sp0:=by
 have b:0<p.length:=Da.mpr a.ne;exact⟨⟨⟨p[0],Nj b,NS _,aP⟩,aP⟩,⟨aP,Nv _⟩,.nil⟩
inductive Dfs(p:bM):cD->cD->Nat->cD->Prop where
 |done {met:cD}:Dfs p met [] 0 met
 |skip {met st out:cD} {s:Spt} {n:Nat} (h:s∈met) (d:E'):jl1
 |add {met st out:cD} {s:Spt} {n:Nat} (h:s∉met) (d:Dfs p qI (A8++st) n out):jl1
theorem QnS(o:jM):∀(m:Nat) (met st:cD),met.Nodup->(∀s∈met,jX)->(∀s∈st,jX)->3*(280010-met.length)+st.length<=m->∃n out,E'/\n<=m/\out.Nodup/\∀s∈out,jX:=by
 have f:=Qf0 o;intro m
 induction m with
 |zero=>
  intro met st h l x v;have:st=[]:=Ee.mp (Dz (Nn lC v) gX);subst this;exact⟨0,met,.done,Nv _,h,l⟩
 | succ m A=>
  intro met st h l x v;cases st with
  |nil=>exact⟨0,met,.done,NS _,h,l⟩
  | cons s st=>
   rw[NQ]at v;have r:=x s NF;have i:∀t∈st,Rc p t:=jT t c x
   by_cases z:s∈met
   ·obtain⟨n,out,d,w,u,f⟩:=A met st h l i aH;exact⟨n+1,out,.skip z d,by exact E5 w _,u,f⟩
   ·have g:(met++[s]).Nodup:=by
     rw[Ew];exact⟨h,aP,λa C b B e=>z (by rw[gF B]at e;rw[<-e];exact C)⟩
    have j:∀t∈met++[s],Rc p t:=λt c=>by
     show iV c q
     ·exact l t q
     ·rw[gF q];exact r
    have y:=Qjf o f g j;rw[NK,Ei]at y;have D:=(QdX o r).1
    obtain⟨n,out,d,w,u,f⟩:=A qI (A8++st) g j (λt c=>by
     show iV c q
     ·exact Qk8 o r q
     ·exact i t q) (by rw[NK,NK,Ei];lia)
    exact⟨n+1,out,.add z d,by exact E5 w _,u,f⟩
noncomputable def Kp(met:cD):kH:=met.map λs=>(QF s,g7)
theorem Qfr:(Y7 tG tM).isSome=zF6:=by
 induction met with
 |nil=>rfl
 | cons t met a=>
  have b:nrm (QF t)=sO (trS t):=Qa5
  by_cases e:t=s
  ·subst e;simp[Kp,Y7,N9,b]
  ·have d:¬nrm (QF t)=sO tM:=λz=>e (QjS z);have:Y7 (Kp (t::met)) tM=Y7 tG tM:=by simp only[Kp,Y7,ND,N9,d,decide_false]
   rw[this,a];have c:¬s=t:=λz=>e z.symm;simp[c]
theorem WD(a:h[n]?=sO (.dct tG)):Qc4 true iB (aD n) h=sO (.bl (! zF6),h):=by
 have c:Qah h (aD n)=sO tG:=T9 a
 have b:nrm iB=sO tM:=Qa5;unfold Qc4;rw[c,Nk,b,N7,Qfr];rfl
theorem QbF(c:h[n]?=sO (.dct tG))(b:s∉met)(d:met.length<sizeLine):KJ (aD n) iB vH h=sO (h.set n (.dct (Kp qI))):=by
 have e:nrm iB=sO tM:=Qa5;have a:(Y7 tG tM).isSome=false:=by rw[Qfr];show kQ b
 unfold KJ;simp only[c];rw[e,Nk,if_pos (by unfold Kp;rw[Ny];exact d)];unfold Qcg;rw[a];simp[Kp]
@[simp]theorem QrY:Qbi mo mi mv σ h=@ob _ _ (λv=>@ob _ _ (λo=>@ob _ _ (λi=>@om _ _ (λh'=>.nx σ h') (KJ o.1 i.1 v.1 i.2)) (mi σ o.2)) (mo σ v.2)) (mv σ h):=aV
theorem Kt(e:j3 t=Md)(a:body σ h=gP σ2 h2):Zd t body (f+1) σ h=zH3 f:=by
 rw[Zd,e,Nk,a];rfl
theorem Yi(e:j3 t=sO (false,h)):Zd t body (f+1) σ h=gP σ h:=by rw[Zd,e];rfl
theorem szN(h:n<=16000000):n<sizeLine:=Np h aE
noncomputable abbrev qS(p:bM)(a b:bY):MSt:=[fZ,sO b',sO eP,a,b]
noncomputable abbrev qH(met st:cD):MH:=Pw
theorem QfW:∀(L st:cD) (b:bY),st.length+L.length<=16000000 ->
  ∃c,JX items nO Cj U9 (L.map QF) (qS p a b) (qH met st)=sO (.nx (qS p a c) (qH met (L.reverse++st))):=by
 intro L
 induction L with
 |nil=>
  intro st b _;exact⟨b,Wg⟩
 |cons s L i=>
  intro st b h;rw[NQ]at h;obtain⟨c,e⟩:=i (s::st) (sO iB) zD6;show tL c;have g:st.length<sizeLine:=szN (Nn cJ h);rw[ND,QaI (σ1:=qS p a (sO iB)) (σ2:=qS p a (sO iB)) (h2:=qH met (s::st)) rfl (eC g)];rw[e];simp
theorem Qd8(A:jM){met st out:cD}(d:E'):∀(f:Nat) (a b:bY),n<f->met.length+n<=15000000->st.length+2*n<=15000000->(∀s∈st,jX)->∃j i,Zd (Qae aR) Yu f (qS p a b) (qH met st)=sO (.nx (qS p j i) (qH out [])):=by
 induction d with
 |@done met=>
  intro f a b B _ _ _;obtain⟨f,rfl⟩:Ms:=⟨f-1,aQ⟩
  exact⟨a,b,Yi aB⟩
 |@skip met st out s n h d w=>
  intro f a b B C g m;obtain⟨f,rfl⟩:Ms:=⟨f-1,aQ⟩
  rw[NQ]at g;obtain⟨j,i,e⟩:=w f (sO iB) b aH aH aH (jT t c m);show r4 j i;have l:=jb7;rw[Kt (σ2:=qS p (sO iB) b) (h2:=qH met st) aB (by simp only[qH]at l;simp[l,h]),e]
 | @add met st out s n h d w=>
  intro f a b B C g m;obtain⟨f,rfl⟩:Ms:=⟨f-1,cC⟩
  rw[NQ]at g;have z:=m s NF;obtain⟨G,_,_,en,_⟩:=QdX A z;have x:∀t∈st,Rc p t:=jT t c m;have l:=jb7;have pu:=QbF (s:=s) (h:=qH met st) (n:=0) rfl h (szN (Nw (Np (Nn cJ C) aE)));obtain⟨E,y⟩:=QfW (p:=p) (items:=jv1) (met:=met++[s]) (a:=sO iB) (nx p s).reverse st b (by rw[Ds];lia);rw[Lb]at y
  obtain⟨j,i,e⟩:=w f (sO iB) E aH (by rw[NK,Ei];lia) (by rw[NK];lia) λt c=>by
   show iV c q
   ·exact Qk8 A z q
   ·exact x t q
  show r4 j i
  have D:QhG (Qc (Qv 2 QJ (Qc aG (Qc aW Ql))) Ql) (qS p (sO iB) b) (qH qI st)=sO (jv1,nO,qH qI st):=by
   have:(Qc (Qv 2 QJ (Qc aG (Qc aW Ql))) Ql) (qS p (sO iB) b) (qH qI st)=sO ([.lst Go],qH qI st):=by simp[en]
   unfold QhG;rw[this,Nk,On]
  have u:KJ b' iB vH (qH met st)=sO (qH qI st):=pu;have F:¬s∈met:=h;rw[Kt (σ2:=qS p (sO iB) E) (h2:=qH qI (A8++st)) aB ?_,e];have r:KJ b' iB vH Pw=sO [.dct (Kp qI),jt1]:=u;have v:Qc4 true iB b' Pw=sO (.bl (! zF6),Pw):=l;simp only[qS,qH]at D y;simp[v,F,r,Ve,D];rw[<-On];exact y
#print "-"
section
variable{bs ws:aO}{p:bM}
theorem Qg0(a:jM):∃(n:Nat) (out:cD),jt2/\n<=840040/\out.length<=280010/\out.Nodup/\(∀s∈out,jX)/\∀h:MH,Zn A9 h=sO (.lst eY,h):=by
 have j:=rc0 a;obtain⟨n,out,d,c,i,f⟩:=QnS a 840031 [] [sp0] Ez aB (by intro s b;rw[gF b];exact j) aB;cases d with
 |skip h=>simp at h
 | @add _ _ _ _ n h d=>
  refine⟨n,out,.add h d,by exact Nw (NT c aE),Qjf a (Qf0 a) i f,i,f,k3 u⟩;obtain⟨t,r,e⟩:=Qd8 a (.add h d) 20000000 nO nO (Np c aE) (by simp;exact Nw (NT c aE)) sC (by intro s b;rw[gF b];exact j);refine QH (g:=[.dct zN,cK]) aB ?_ aB
  have q:YR [hJ] [.dct zN,cK]=sO (.lst eY,[.dct zN,cK]):=by
   have:Qah [.dct zN,cK] b'=sO zN:=rfl;show jp4
  have o:∀m,QfU m []=sO (hJ,[oV]):=dG;have l:Zd (Qae aR) Yu 20000000 [fZ,sO b',sO eP,nO,nO] [oV,.lst [QF sp0]]=sO (.nx (qS p t r) (qH out [])):=e;simp only[qH,E7,List.reverse_nil]at l;simp[Wx,QM,o];rw[l];simp[q]
theorem Qhl{N:Nat}{bs ws:aO}{p:bM}(d:gC){x:Pt}(a:x∈p):∀l∈x.2,zL4:=by
 show Mf c a;exact λl b=>VC (d.ok i x c l b)
noncomputable abbrev Fm:=Nat×Spt×Nat
noncomputable def flt(p:bM)(F:List Fm):cD:=F.flatMap λf=>(nx p f.2.1).drop f.2.2
noncomputable def pth(F:List Fm):aI:=(F.map λf=>W.ref f.1).reverse
structure LI(p:bM)(h:MH)(met:cD)(F:List Fm):Prop where
 d:h[0]?=sO (.dct tG)
 q:h[2]?=sO zF7
 f:∀f∈F,h[f.1]?=jp5 f/\f.1≠0/\f.1≠2/\f.2.2<=(nx p f.2.1).length/\Rc p f.2.1
 nd:(F.map (·.1)).Nodup
noncomputable abbrev aS(p:bM)(a b:bY):MSt:=[fZ,tB,sO b',z7,a,b]
noncomputable abbrev tA:MT:=Qy (Qn wGt (mFn JB (Qc aW Ql)) aY)
theorem Qiv{h:MH}(e:h[n]?=sO o):n<h.length:=bX e
theorem XH{h:MH}(e:h[n]?=sO o):(h.set n x)[m]?=if n=m then sO x else h[m]?:=by
 rw[LU];split
 ·rename_i z;subst z;rw[if_pos (Qiv e)]
 ·rfl
theorem Qhz(hg:jM):∀(m n:Nat) (met out:cD) (F:List Fm) (h:MH) (a b:bY) (f:Nat),LI p h met F->Dfs p met (flt p F) n out->2*n+F.length<=m->m<f->met.length+n<=15000000->F.length+n<=15000000 ->
  ∃L J h',Zd tA Jr f (aS p a b) h=sO (.nx (aS p L J) h')/\h'[0]?=sO (.dct zN):=by
 intro m
 induction m with
 |zero=>
  intro n met out F h a b f I d hm hf _ _;obtain⟨f,rfl⟩:Ms:=⟨f-1,aQ⟩
  have:F=[]:=Ee.mp (Dz (Nn lC hm) gX);subst this;show zU8
 | succ m ih=>
  intro n met out F h a b f I d hm hf l1 l2;obtain⟨f,rfl⟩:Ms:=⟨f-1,aQ⟩
  cases F with
  |nil=>
   show zU8
  | cons fr F=>
   obtain⟨i,s,c⟩:=fr;rw[NQ]at hm l2;obtain⟨E,i0,i2,hc,U⟩:=I.f (i,s,c) NF;simp only at E i0 i2 hc U;have u:=I.q;have hp:pth zL5=pth F++[aF i]:=by simp[pth]
   rw[hp]at u;obtain⟨_,_,_,_,en⟩:=QdX hg U;have C:tA (aS p a b) h=Md:=hY u
   have Y:=I.nd;rw[ND,ES]at Y
   by_cases hz:c=Hr
   ·-- back
    have hI:LI p (h.set 2 zF7) met F:=by
     refine⟨?_,?_,bG g l,Y.2⟩
     ·rw[XH u,if_neg aE];exact I.d
     ·rw[XH u,fO]
     ·have z:=I.f g (NA _ l);refine⟨?_,z.2⟩;rw[XH u,if_neg (λe=>z.2.2.1 e.symm)];exact z.1
    have H:flt p zL5=flt p F:=by simp[flt,hz]
    rw[H]at d;obtain⟨L,J,h',e,S⟩:=ih n met out F _ xF b f hI d aH aH l1 aH;refine zD8;rw[Kt (σ2:=aS p xF b) (h2:=h.set 2 zF7) C (by simp[u,E,en,hz]),e]
   ·-- on
    have y:c<Hr:=aQ
    have ht:(nx p s)[c]?=sO ze9:=Nj y;have O:Rc p ze9:=Qk8 hg U (E4 y);have R:(nx p s).drop c=ze9::(nx p s).drop (c+1):=EY y;generalize ze9=t at ht O R;have ae:atI Go (c:Int)=sO (QF t):=by rw[Q6,Nq,ht];rfl
    have H:flt p zL5=t::flt p zF8:=by simp[flt,R]
    rw[H]at d;have aa:¬(c:Int)=Hr:=aQ
    generalize v:h.set i (.lst [QF s,WP c])=w;have M:w[0]?=sO (.dct tG):=by rw[<-v,XH E,bQ i0];exact I.d
    have g2:w[2]?=sO (.lst (pth F++[aF i])):=by rw[<-v,XH E,bQ i2];exact u
    have gi:w[i]?=sO (.lst [QF s,WP c]):=by rw[<-v,XH E,fO]
    have gf:∀g∈F,w[g.1]?=jp5 g:=λg l=>by
     have z:=I.f g (NA _ l);rw[<-v,XH E,if_neg (λe=>Y.1 (by rw[show(i,s,c).1=i from rfl,e];exact NI.mpr ⟨g,l,rfl⟩))];exact z.1
    have ni:=WD (s:=t) M
    have B:LI p w met zF8:=by
     refine⟨M,by rw[g2];simp[pth],bG g l,I.nd⟩
     show kD l
     ·exact⟨by rw[gi];simp,i0,i2,y,U⟩
     ·exact⟨gf g l,(I.f g (NA _ l)).2⟩
    have pre:Jr (aS p a b) h=Ja (Qy (Qn Mg c5 aR)) (QG (Qbi aR c5 j6) (Vi (mMt "list" ZD aW (Qc (mFn Wr (Qc c5 (Qc aY Ql))) Ql)))) QR (aS p xF yX) w:=by
     rw[<-v];unfold Jr;generalize Ja (Qy (Qn Mg c5 aR)) (QG (Qbi aR c5 j6) (Vi (mMt "list" ZD aW (Qc (mFn Wr (Qc c5 (Qc aY Ql))) Ql)))) QR=rest;simp[u,E,en,aa,ae]
    cases d with
    |@skip _ _ _ _ n x d=>
     obtain⟨L,J,h',e,S⟩:=ih n met out _ w xF yX f B d zD6 aH aH zD6;refine zD8;rw[Kt (σ2:=aS p xF yX) (h2:=w) C (by rw[pre];simp[ni,x]),e]
    | @add _ _ _ _ n x d=>
     have pu:=QbF (s:=t) M x (szN (Nw (Np (Nn cJ l1) aE)));generalize G:w.set 0 (.dct (Kp ze8))=r at pu;have k0:r[0]?=sO (.dct (Kp ze8)):=by rw[<-G,XH M,fO]
     have Z:r[2]?=sO (.lst (pth F++[aF i])):=by rw[<-G,XH M,if_neg aE];exact g2
     have kf:∀(j:Nat) (o:MO),j≠0->w[j]?=sO o->r[j]?=sO o:=λj o hj e=>by rw[<-G,XH M,jv2];exact e
     have D:=Qiv Z;have T:(r++[MO.lst [QF t,kP]])[2]?=sO (.lst (pth F++[aF i])):=by rw[NJ D];exact Z
     have sl:(pth F).length+1<sizeLine:=szN (by simp[pth];lia);generalize A:(r++[MO.lst [QF t,kP]]).set 2 (MO.lst (pth F++[W.ref i]++[W.ref r.length]))=X
     have ap:∀(j:Nat) (o:MO),r[j]?=sO o->j≠2->X[j]?=sO o:=λj o e hj=>by
      rw[<-A,XH T,jv2,NJ (Qiv e)];exact e
     have ab:LI p X ze8 je5:=by
      refine⟨ap 0 _ k0 aE,?_,bG g l,?_⟩
      ·rw[<-A,XH T,fO];simp[pth]
      ·show kD l
       ·refine⟨?_,by show r.length≠0;exact EC (NT aE D),by show r.length≠2;exact EC D,NS _,O⟩;rw[<-A,XH T,if_neg aH];simp
       ·have z:=B.f g l;exact⟨ap _ _ (kf _ _ z.2.1 z.1) z.2.2.1,z.2⟩
      ·rw[ND,ES];refine⟨k3 P,B.nd⟩;obtain⟨g,l,e⟩:=NI.mp P;have z:=B.f g l;have:=Qiv (kf _ _ z.2.1 z.1);simp only at e;exact FU (cL e) this
     have Q:flt p je5=nx p t++flt p zF8:=by simp[flt]
     rw[<-Q]at d;obtain⟨L,J,h',e,S⟩:=ih n ze8 out _ X xF yX f ab d (by rw[NQ,NQ];lia) aH (by rw[NK,Ei];lia) (by rw[NQ,NQ];lia);refine zD8;rw[Kt (σ2:=aS p xF yX) (h2:=X) C ?_,e];rw[pre,<-A];simp[ni,x,pu,T,sl,Z]
#print "-"
theorem KG:(H0++[o])[H0.length]?=sO o:=aP
theorem Xu:(H0++[o]).set H0.length a=H0++[a]:=aP
section
variable{bs ws:aO}{p:bM}
theorem Qdf(j:jM)(d:jt2)(w:n<=840040)(h:MH):JR [Zx p,Vh p] h=sO (.lst eY,h):=by
 have t:Dfs p [sp0] (flt p [(1,sp0,0)]) n out:=by
  cases d with
  |skip h=>simp at h
  |add h d=>simpa[flt]using d
 have I:LI p [zF9,.lst [QF sp0,kP],.lst [wU]] [sp0] [(1,sp0,0)]:=by
  refine⟨rfl,rfl,bG f m,aP⟩;rw[gF m];exact⟨rfl,d5,d5,NS _,rc0 j⟩
 obtain⟨v,u,a,e,r⟩:=Qhz j 2000000 n [sp0] out _ _ nO nO 20000000 I t sC aE sC kZ;refine QH (g:=a) aB ?_ (by simp[Qk5])
 have q:∀b,Qim (mFn Zs (Qc yW (Qc aY (Qc aY jL)))) j6 b []=sO (hJ,[zF9]):=λb=>by
  have pu:=QbF (met:=[]) (s:=sp0) (h:=[.dct (Kp [])]) (n:=0) rfl aB aE;have c:∀h,(mFn Zs (Qc yW (Qc aY (Qc aY jL)))) b h=sO (QF sp0,h):=λh=>by simp[QF]
  unfold Qim;rw[c,Nk];show(KJ b' (QF sp0) vH [.dct (Kp [])]).map _=_;rw[pu];rfl
 have c:YR [hJ] a=sO (.lst eY,a):=by
  have:Qah a b'=sO zN:=T9 r
  show jp4
 have l:Zd tA Jr 20000000 [fZ,tB,sO b',z7,nO,nO] [zF9,.lst [.tup [.tup [],kP,kP,iL],kP],.lst [wU]]=sO (.nx (aS p v u) a):=e;generalize o:Zd tA Jr 20000000=i at l;simp only[Kf,QM,o];simp[q,l,c]
#print "-"
theorem QpY:∀(a b:aO),a.Nodup->(∀y∈a,y∈b)->a.length<=b.length:=by
 intro a
 induction a with
 |nil=>
  intro b _ _;exact NS _
 |cons k r f=>
  intro b c h;have e:=h k NF;rw[ES]at c;have:=f (b.erase k) c.2 λy d=>(I0 (λz=>c.1 (uX z d))).mpr (h y (NA _ d));rw[Ih e]at this;have:=OX e;rw[NQ];lia
theorem QaF:∀(n:Nat) (l:aO),BA->(St.uniq l).Nodup/\(l.Nodup->St.uniq l=l):=by
 intro n
 induction n with
 |zero=>intro l h;rw[C8];exact⟨Ez,dG⟩
 | succ n f=>
  intro l h;obtain⟨u,x,rfl⟩:Tj:=⟨l.dropLast,l.getLast (λz=>by show bK z h),M7⟩
  obtain⟨q,d⟩:=f u RO;rw[St.uniq_snoc];constructor
  ·split
   ·exact q
   ·rename_i g;rw[Ew];exact⟨q,aP,λa j b i e=>g (by rw[gF i]at e;rw[<-e];exact j)⟩
  ·intro c;rw[Ew]at c;rw[d c.1,if_neg λz=>c.2.2 x z x aB rfl]
noncomputable def pW:tP
 |.tup (c4 x::_)=>x=="pair"
 |_=>false
noncomputable def fW:W->W
 |.tup (_::_::z::_)=>z
 |_=>.non
noncomputable def wdL(l:Ln):zg7:=match l with
 |[x,_,w,_,_]=>if x="pair"then sO w else nO
 |_=>nO
section
variable{bs ws la:aO}{p:bM}
theorem WK(h:zB7)(a:pW (Zl l)=true):∃x w y z:Str,l=(zD5:Ln)/\w∈ws:=by
 cases h with
 |plain h=>
  cases h with
  |pair d hw c b=>exact⟨_,_,_,_,rfl,hw⟩
  |_=>simp[Zl,pW]at a
 |«do» h=>simp[Zl,pW]at a
 |blk h=>rcases h with rfl|rfl|rfl|rfl<;>simp[Zl,pW]at a
 |back h=>simp[Zl,pW]at a
theorem Qbw{y:Str}(f:¬y="pair"):wdL (y::r)=nO:=by
 unfold wdL;split
 ·rename_i a b c d e g;cases g;rw[bQ f]
 ·rfl
theorem Qjg(h:LineOk bs ws la ("pair"::r)):∃x w y z:Str,r=[x,w,y,z]:=by
 obtain⟨x,w,y,z,e,_⟩:=WK h (by simp[Zl,pW]);injection e with _ e
 exact⟨x,w,y,z,e⟩
theorem U5:∀{ls:eW},(∀l∈ls,∃la,zB7)->((ls.map Zl).filter pW).map fW=(ls.filterMap wdL).map .str/\∀x∈ls.filterMap wdL,x∈ws:=by
 intro ls
 induction ls with
 |nil=>
  intro _;exact⟨rfl,aP⟩
 | cons l ls f=>
  intro h;obtain⟨e,hw⟩:=f (jT x g h);obtain⟨la,d⟩:=h l NF
  by_cases a:pW (Zl l)=true
  ·obtain⟨x,w,y,z,rfl,i⟩:=WK d a;have c:wdL zD5=sO w:=by simp[wdL]
   rw[ND,List.filter_cons_of_pos a,ND,e,List.filterMap_cons_some c];refine⟨rfl,bG q b⟩
   show kD b
   ·exact i
   ·exact hw q b
  ·show TR d;have c:wdL (y::r)=nO:=Qbw λz=>a (by subst z;simp[Zl,pW]);rw[ND,Oz a,e,List.filterMap_cons_none c];exact⟨rfl,hw⟩
theorem Qdy{ls:eW}(g:mi σ h=sO (ls.map Zl,nO,h))(a:∀l∈ls,∃la,zB7)(e:ls.length<=1000000):Z4 V8 mi [nO] iN (Qy (Qn wEq (Qn wIx aG aY) AK)) (Qn wIx aG dA) σ h=sO (.lst ((ls.filterMap wdL).map .str),h):=by
 have c:=QaV (fin:=V8) (mi:=mi) (cp:=[nO]) (mt:=Qy (Qn wEq (Qn wIx aG aY) AK)) (me:=Qn wIx aG dA) (σ:=σ) (caps:=[]) (h:=h) (items:=ls.map Zl)
  fW pW g f9 (λw hw=>by
   show uI l b;obtain⟨la,b⟩:=a l b;show TR b;simp[Zl,pW]) (λw hw f=>by
   show uI l b;obtain⟨la,b⟩:=a l b;obtain⟨y,w,u,z,rfl,_⟩:=WK b f
   simp[Zl,fW]) (by simp;exact X6 e)
 rw[(U5 a).1]at c;exact c
noncomputable def prw(p:bM):aO:=p.flatMap λx=>x.2.filterMap wdL
noncomputable def Wds(p:bM):aO:=St.srt (St.uniq (prw p))
theorem QmG(e:gC):∀y∈prw p,y∈ws:=by
 intro y a;obtain⟨x,b,a⟩:=Fl.mp a;show Mf d b;exact(U5 (λl c=>⟨_,e.ok i x d l c⟩)).2 y a
theorem Qgz{f:a->cE d}:∀(l:cE a),(∀x∈l,(f x).length<=n)->(l.flatMap f).length<=n*l.length:=by
 intro l
 induction l with
 |nil=>
  intro _;simp
 |cons x l b=>
  intro h;have:=b (jT y c h);have:=h x NF;rw[List.flatMap_cons,NK,NQ,Nat.mul_succ];lia
theorem QlS(a:gC):(prw p).length<=N*5:=Nn (Qgz p λx b=>Nn (Im _ _) (a.sz x b)) (Yax _ a.len)
theorem Qi6(f:gC)(b:v5):jl2/\(Wds p).length<=5/\(Wds p).Nodup/\sortedS (Wds p)=true:=by
 have d:jl2:=Nn (QpY _ ws (QaF _ _ rfl).1 λy e=>QmG f y ((St.uniq_mem _ _ rfl y).mp e)) b;show tL d
 by_cases c:∃a:aO,a.Perm (St.uniq (prw p))/\Hv
 ·show fT a q h c;unfold Wds;rw[St.srt_eq q h];exact⟨by rw[q.length_eq];exact d,q.nodup_iff.mpr (QaF _ _ rfl).1,h⟩
 ·unfold Wds St.srt;rw[dif_neg c];exact⟨aP,Ez,rfl⟩
theorem QdS(c:lsW h a=sO (wB b))(h1:zK8)(h2:(St.uniq b).length<64):Ka [a] h=sO (eX,zW8):=by
 unfold Ka;simp only[c,Nk,QjC];rw[if_pos (fF h1 h2)]
theorem QeW:∀{ws:aI},vL->∀{k:Nat},X5 k ws=zg0:=by
 intro ws
 induction ws with
 |nil=>
  intro _ k;exact rfl
 |cons a r c=>
  intro b k;show yE b;have:=c b.2 (k:=k);show zk8
theorem Ga{ws a:aI}(f:vL)(e:m ws []=sO (aF j,g))(i:g[j]?=sO nF)(c:JC a=true):box frN m ws h=sO (jG a,h):=by
 have d:X5 0 ws=zg0:=QeW f
 have:=WN (m:=m) (args:=ws) (as:=ws) (ns:=[]) (os:=[]) (os':=[]) (g:=g) (h:=h) (w:=aF j) (w':=jG a) d aB rfl e rfl aB (by
  unfold th res
  simp[W4,i,Xe _ a c])
 simpa[Q0]using this
noncomputable abbrev oS(p:bM)(x2 x3:bY):MSt:=[fZ,sO b',x2,x3]
theorem Qn3{f:a->cE b}{l:cE a}(h:l[j]?=sO x):(l.take (j+1)).flatMap f=(l.take j).flatMap f++f x:=by rw[List.take_succ,h];simp
theorem QgT(a:zB5)(o:v5)(h:MH):ZY A9 h=sO (jv3,h):=by
 have i:=a.len;have y:=QlS a
 have e:=Va (items:=p.map Xy) (b:=ZQ [2,3]) (body:=X9) (λn m h=>∃(d c:bY),m=oS p d c/\h=[.lst ((prw (p.take n)).map .str)])
  qF 0 (oS p nO nO) [cK] ⟨nO,nO,rfl,rfl⟩ (by
   rintro j w r m h ⟨d,c,rfl,rfl⟩
   rw[Nq]at r;show s9 x f r;have q:=a.sz x (j7 j f);rw[NR];refine⟨oS p zD7 (sO (.tup m6)),rfl,oS p zD7 (sO (.tup m6)),_,lH,_,_,rfl,rfl⟩;have B:=Qdy (ls:=x.2) (mi:=Zb aW) (σ:=oS p zD7 (sO (.tup m6))) (h:=[.lst ((prw ze0).map .str)]) rfl (λl z=>⟨_,a.ok j x f l z⟩) (Nw (Np q aE));have C:prw (p.take (j+1))=prw ze0++x.2.filterMap wdL:=Qn3 f;have G:(prw ze0).length<=300*5:=Nn (Qgz _ λx f=>Nn (Im _ _) (a.sz x (Fb f))) (Yax _ (by rw[E3];exact Nn MU i));have F:=Im wdL x.2;have u:(prw ze0).length+(x.2.filterMap wdL).length<=sizeLine:=X6 aH;rw[C]
   simp[B,u])
 obtain⟨t,H,s,d,c,rfl,rfl⟩:=e;rw[Ny,NR,Dj]at s;have v:=(Qi6 a o).1;have A:Ka [hJ] [jv4]=sO (wU,zT4):=QdS rfl aH (Np v aE);refine Ga (j:=1) (g:=zT4) aB ?_ rfl aB;have ei:∀d c (h:MH),Zb aG (oS p d c) h=sO (p.map Xy,nO,h):=za4;simp[Xq,QM,Ve,ei,s,A]
#print "-"
theorem Gj(P:Do)(d:∀n σ h,P n σ h->pJ):∀(r:aI) (n:Nat) (σ:MSt) (h:MH),P n σ h ->
  (∀(j:Nat) (w:W),zf2->∀σ h,za0->∃σ1,yH/\∃σ2 h2,(qL=gP σ2 h2\/qL=Th)/\T0) ->
  ∃a h',zD3 σ h=gP a h'/\zx9:=by
 intro r
 induction r with
 |nil=>
  intro n σ h c _;exact⟨σ,h,by rw[JX,if_pos (d _ _ _ c)],c⟩
 | cons w r l=>
  intro n σ h c f;obtain⟨σ1,p,σ2,h2,e,i⟩:=f 0 w rfl σ h c
  obtain⟨a,h',o,g⟩:=l (n+1) σ2 h2 i λj x m σ h c=>by
   have:=f (j+1) x (bZ m) σ h (Cw j c);show Pm
  refine⟨a,h',?_,by rw[NQ,zn9];exact g⟩;rw[JX,if_pos (d _ _ _ c),p,Nk]
  rcases e with e|e<;>rw[e]<;>exact o
noncomputable abbrev Pl:=hF
noncomputable def ZT(q:Pl):W:=.tup [tZ q,tJ]
noncomputable abbrev Mn:=Str×Pl
noncomputable def VJ(m:Mn):W:=.tup [.str m.1,ZT m.2]
@[simp]theorem QtF:pur p0=true:=by simp[ZT]
@[simp]theorem Qj0:pln p0=true:=by simp[ZT,pln,YK]
@[simp]theorem QpP:pln (VJ m)=true:=by simp[VJ,pln,YK]
theorem Qij:dep p0<=3:=by simp[ZT,dep,Qaz]
@[simp]theorem Qoe{ms:iM}:YK (ms.map VJ)=true:=VZ λ_=>QpP
@[simp]theorem QnW{ms:iM}:JC (ms.map VJ)=true:=Jq _ Qoe
@[simp]theorem Qjn{ms:eQ}:YK (ms.map ZT)=true:=VZ λ_=>Qj0
@[simp]theorem Qro{ms:eQ}:JC (ms.map ZT)=true:=Jq _ Qjn
noncomputable abbrev mS(p:bM)(x3 x4 x5 x6 x7 x8 x9 x10:bY):MSt:=[fZ,sO b',sO eP,x3,x4,x5,x6,x7,x8,x9,x10]
theorem Qch{j:Nat}(d:dP<=300)(q:D.length<=3000)(o:j<=10) :
  VO (mS p (bL j) KT nO nO nO nO nO nO) [QO f,o6]=sO (.nx (mS p (bL j) KT nO nO nO nO nO nO) [QO f,.lst ((D++(List.range (dP+1)).map λg=>(j,g)).map ZT)]):=by
 have e:YG (Qc (Qn JE (mFn JB (Qc (Qn wIx a' aK) Ql)) aK) Ql) (mS p (bL j) KT nO nO nO nO nO nO) [QO f,o6]=sO (QL 0 (dP+1),nO,[QO f,o6]):=WJ (by simp[Xy]) aH
 have a:=XM (fin:=V8) (mi:=YG (Qc (Qn JE (mFn JB (Qc (Qn wIx a' aK) Ql)) aK) Ql)) (cp:=BR) (me:=mFn Zs (Qc aL (Qc aG Ql))) (σ:=mS p (bL j) KT nO nO nO nO nO nO) (caps:=[eB j]) (h:=[QO f,o6]) (items:=QL 0 (dP+1))
  (λw=>.tup [aC j,w]) e f9 (λw _=>aP) (by rw[Qde];exact X6 (Np d aE))
 have i:(QL 0 (dP+1)).map (λw=>W.tup [aC j,w])=((List.range (dP+1)).map λg=>(j,g)).map ZT:=by
  unfold QL;simp[ZT,DC]
 rw[i]at a;simp only[V8]at a;have c:D.length+(dP+1)<=sizeLine:=X6 aH;simp[a,c]
theorem Qqf(q:BP=sO (as,[n]))(r:k')(e:m as [QO f]=sO (.ref (j+1),QO i::g))(s:g[j]?=zc4)(p:JC c=true):AV=sO (jG c,sM i):=by
 have:=WN (m:=m) (args:=args) (as:=as) (ns:=[n]) (os:=[QO f]) (os':=[QO i]) (g:=g) (h:=h) (w:=.ref (j+1)) (w':=jG c) q aB (by simp[Z8,GP (us:=[.int f.a,.int f.b]) r aB,QO]) e rfl (λo d=>by show hX d;exact⟨_,rfl,aP⟩) (by
  unfold th res
  simp[W4,s,Xe _ c p])
 show j8
theorem Qgb{p:bM}{f:Fd}{PL:eQ}{M:iM}{way:Nat}{one q:Pl}{wd:Str}{x3 x4 x5:bY}(hw:way<=5)(l:M.length<=200000) :
  ∃(o:Fd) (j:iM),j.length<=M.length+1/\JN (mS p x3 x4 x5 (sO (.int way)) pT pU (sO (.str wd)) (sO p0)) [QO f,.lst (PL.map ZT),n5 M]=sO (.nx (mS p x3 x4 x5 (sO (.int way)) pT pU (sO (.str wd)) (sO p0)) [QO o,.lst (PL.map ZT),n5 j]):=by
 have c:M.length<sizeLine:=Np l aE;have app:M.map VJ++[VJ (wd,q)]=(M++[(wd,q)]).map VJ:=aP
 have a:∀h,wEq p0 (ZT one) h=sO (.bl (eqW p0 (ZT one)),h):=λh=>Qtc Qj0 Qj0 (Nn Qij aE) (Nn Qij aE)
 by_cases b:way=0
 ·subst b;cases e:eqW p0 (ZT one)with
  |true=>
   refine⟨f,M++[(wd,q)],aP,?_⟩;rw[<-app];simp[a,e,c,VJ]
  |false=>
   refine⟨f,M,yJ,?_⟩;simp[a,e]
 ·by_cases n:way=1
  ·subst n;refine⟨f,M,yJ,?_⟩;simp
  ·obtain⟨s,r⟩:=Yx (f:=f) (m:=2+way) aH;have g1:mM<way:=aQ
   have g2:¬(way:Int)=0:=aQ
   have g3:iY<2+way:=by exact LB s r
   have i:(2:Int)+way<1000000:=aQ
   have g:1<way:=aQ
   by_cases d:tk f (2+way)=0
   ·refine⟨tf f (2+way),M++[(wd,q)],aP,?_⟩;rw[<-app];simp[g1,g2,g3,i,b,g,d,c,VJ]
   ·refine⟨tf f (2+way),M,yJ,?_⟩;simp[g1,g2,g3,i,b,g,d]
theorem Qfp{p:bM}{bs ws:aO}(J:zB5)(E:v5)(f:Fd):∃(M:iM) (f':Fd),yC/\∀(h:MH) (n:Nat),k'->JM [Zx p,aF n] h=sO (n5 M,sM f'):=by
 have G:=J.len;have T:=J.ne;obtain⟨Wd,Y,aa⟩:∃Wd:aO,Wd.length<=63/\∀h:MH,ZY A9 h=sO (.lst TK,h):=⟨_,Nn (Qi6 J E).2.1 aE,QgT J E⟩
 have B:=Va (items:=ZR qF) (b:=ZQ [3,4]) (body:=VO) (λn o h=>∃(D:eQ) (e d:bY),o=mS p e d nO nO nO nO nO nO/\h=[QO f,o6]/\D.length<=301*n/\(0<n->D≠[]))
  (ZR qF) 0 je6 [QO f,cK] ⟨[],nO,nO,rfl,rfl,aP,aP⟩ (by
   rintro j w z o h ⟨D,e,d,rfl,rfl,h1,h2⟩
   unfold ZR at z;rw[Nq,DA,Nq]at z;show s9 q S z;obtain⟨y,hy,rfl⟩:=kS S;obtain⟨x,hx,rfl⟩:=Nf.mp hy;have H:=(Nd.mp hx).1;have R:=J.sz x (NN.mpr ⟨j,hx⟩);rw[NR]at *
   exact⟨mS p (bL j) KT nO nO nO nO nO nO,rfl,_,_,.inl (Qch R aH (Nw (NT (Ni H G) aE))),_,_,_,rfl,rfl,by simp;lia,λ_=>aP⟩)
 obtain⟨ah,h',e1,D,e,d,rfl,rfl,hD,s⟩:=B;have X:(ZR qF).length=p.length:=by simp[ZR]
 rw[X,NR]at hD s;have F:0<p.length:=Da.mpr T;have al:0<D.length:=Da.mpr (s F);obtain⟨a0,a1⟩:=Yx (f:=f) (m:=6) aE;obtain⟨c,C⟩:=Qi2 a0;have v:c<=5:=aQ
 obtain⟨b0,b1⟩:=Yx (f:=tf f 6) (m:=D.length) aH;obtain⟨N,U⟩:=Qi2 b0;have I:N<D.length:=aQ
 have t:atI Mh (N:Int)=sO (ZT D[N]):=by rw[Q6,Nq,Nj I];rfl
 generalize D[N]=one at t
 have u:=Va (items:=Wd.map .str) (b:=ZP 9) (body:=X0) (λn o h=>∃(f:Fd) (M:iM) (A a:bY),o=mS p e d uA (bL c) pT pU A a/\h=[QO f,o6,n5 M]/\M.length<=D.length*n)
  TK 0 (mS p e d uA (bL c) pT pU nO nO) [QO (tf oN D.length),o6,cK] ⟨_,[],nO,nO,rfl,rfl,aP⟩ (by
   rintro j w z o h ⟨f1,M,A,a,rfl,rfl,hM⟩
   rw[Nq]at z;show s9 r Q z;have H:=bX Q;rw[NR]at *;refine⟨mS p e d uA (bL c) pT pU HC a,rfl,?_⟩;have hb:D.length*j<=1505*62:=Lo aH aH
   have inner:=Gj (items:=D.map ZT) (src:=sO (.l 1)) (b:=ZP 10) (body:=JN) (λn o h=>∃(f:Fd) (M':iM) (a:bY),o=mS p e d uA (bL c) pT pU HC a/\h=[QO f,o6,n5 M']/\M'.length<=M.length+n)
    (by rintro n o h ⟨f,M',a,rfl,rfl,_⟩ k hk;cases hk;rfl)
    Mh 0 (mS p e d uA (bL c) pT pU HC a) [QO f1,o6,n5 M] ⟨f1,M,a,rfl,rfl,yJ⟩ (by
     rintro i w hi o h ⟨f2,M2,ab,rfl,rfl,ak⟩
     rw[Nq]at hi;obtain⟨q,S,rfl⟩:=Nf.mp hi;have aj:=bX S;obtain⟨Z,M3,l3,O⟩:=Qgb (p:=p) (f:=f2) (PL:=D) (M:=M2) (way:=c) (one:=one) (q:=q) (wd:=r) (x3:=e) (x4:=d) (x5:=sO (.lst TK)) v aH
     exact⟨mS p e d uA (bL c) pT pU HC (sO p0),rfl,_,_,eH O,Z,M3,_,rfl,rfl,aQ⟩)
   obtain⟨af,h2,e2,f2,M2,P,rfl,rfl,l2⟩:=inner;rw[Ny,NR]at l2;refine⟨_,_,lH,f2,M2,nE r,P,rfl,rfl,by rw[Nat.mul_add];lia⟩
   have ei:∀a (h:MH),h[1]?=sO (.lst Mh)->Zb aR (mS p e d uA (bL c) pT pU HC a) h=sO (D.map ZT,sO (.l 1),h):=λ_ h he=>by
    unfold Zb Qg;simp[K9,he]
   show Ve (Zb aR) Pc JN _ _=_;unfold Ve;rw[ei _ _ rfl,Nk]
   exact e2)
 obtain⟨ae,h3,O,Z,M,A,a,rfl,rfl,hM⟩:=u;rw[Ny,NR]at hM;have hb:D.length*Wd.length<=1505*63:=Lo aH Y;refine⟨M,Z,aQ,λh n hn=>?_⟩;refine Qqf (j:=1) (g:=[o6,n5 M]) (as:=[Zx p,hJ]) (by simp[X5,Zx]) hn ?_ rfl QnW
 have ei:UU (Qc aG Ql) je6 [QO f,cK]=sO (ZR qF,nO,[QO f,cK]):=by
  unfold UU;simp[Zx]
 have g1:iY<D.length:=by exact LB b0 b1
 have g2:(D.length:Int)<1000000:=aQ
 have et:=GZ (f:=tf f 6) (m:=D.length) (h:=[QO oN,o6]) (n:=0) g1 g2 rfl;have L:∀A a (h:MH),Zb c5 (mS p e d uA (bL c) pT pU A a) h=sO (Wd.map .str,nO,h):=za4;simp only[mS]at ei e1 L O;simp[Xf,QM,Ve,ei,e1,aa,C,U,et,t,L,O]
theorem QhD{mt:MT}{h:MH}(e:pJ)(P:zj8)(g:tP)(f:W->W):∀(rest a:aI) (d:MSt),P d->(∀w∈rest,∀d,P d->∃c,b w d h=sO c/\P c/\mt c h=oR g/\(g w=true->me c h=oR f))->zq3->V6 fin items src b mt me rest a d h=jl8 g:=by
 intro rest
 induction rest with
 |nil=>
  intro a d _ _ _;unfold V6;rw[bH e];simp
 | cons w rest n=>
  intro a d o j q;have p:zp0:=cN q
  obtain⟨c,t,m,s,r⟩:=j w NF d o;unfold V6;rw[bH e,t,Nk,s,Nk];cases l:g w with
  |true=>
   simp only[r l,Nk];rw[if_pos aH,n (a++[f w]) c m (yN i j) sC];simp[l]
  |false=>
   simp only;rw[n a c m (yN i j) aH];simp[l]
theorem QbE{b:MG}{mt:MT}{me:ME}{σ:MSt}{h:MH}(P:zj8)(g:tP)(f:W->W)(j:mi σ h=sO (items,src,h))(c:pJ)(l:P (Qjl cp σ))(e:∀w∈items,∀d,P d->∃a,b w d h=sO a/\P a/\mt a h=oR g/\(g w=true->me a h=oR f))(i:RU):Z4 fin mi cp b mt me σ h=jr8 g:=by
 unfold Z4;rw[j,Nk,QhD c P g f items [] _ l e (bZ i)];simp
noncomputable def mdS(p:bM)(s:Spt):zg7:=if sP then nO else(p[s.part]?).bind λx=>(x.2[s.k]?).bind wdL
noncomputable def Qaf:zg7->W
 |dY w=>c4 w
 |none=>.non
@[simp]theorem Qsq:pur (Qaf o)=true:=by cases o<;>simp[Qaf]
noncomputable def gn(M:iM)(s:Spt):aO:=if sP then[]else(M.filter λm=>m.2=(s.part,s.k)).map (·.1)
theorem QkS{p:bM}{N:Nat}{bs ws:aO}{s:Spt}{h:MH}(z:gC)(u:SV p s):ZV vC h=sO (Qaf (mdS p s),h):=by
 show Fr q;obtain⟨x,i,v,_⟩:=u.ex;simp only at i v;have j:=Yz i;refine QH (g:=[]) aB ?_ aB;unfold mdS;simp only[i,Nk];cases head with
 |true=>simp[Jy,QM,QF,j,Qaf]
 | false=>
  by_cases n:k=dP
  ·have B:x.2[k]?=nO:=vE n
   have t:¬k<dP:=by exact NZ.mpr (cL n)
   simp[Jy,QM,QF,j,B,t,Qaf]
  ·have e:k<dP:=aQ
   obtain⟨l,d⟩:∃l,m7:=⟨x.2[k],Nj e⟩
   have f:=z.ok part x i l (j7 k d);show TR f;have o:=Qaj d;rw[d,Nk]
   by_cases m:y="pair"
   ·subst m;obtain⟨a,w,b,c,rfl⟩:=Qjg f;have A:∀h,ja3=sO (c4 w,h):=λh=>by simp[Zl]
    simp[Jy,QM,QF,j,e,o,A,wdL,Qaf]
   ·have:=Qbw (r:=r) m;simp[Jy,QM,QF,j,e,o,m,this,Qaf]
section
variable{ι κ:Type}[Bt κ]
noncomputable def wa(M:List (ι×κ))(q:κ):cE ι:=(M.filter λm=>m.2=q).map (·.1)
theorem Gu{q:κ}:wa (M++[m]) q=if m.2=q then wa M q++[m.1]else wa M q:=by
 unfold wa;rw[Fz,Ey]
 by_cases h:m.2=q<;>simp[h]
structure WB(M:List (ι×κ))(G:zI7)(Ls:List (List ι)):Prop where
 nk:(G.map (·.1)).Nodup
 ni:(G.map (·.2)).Nodup
 at_:∀g∈G,Ls[g.2]?=sO (wa M g.1)
 all:∀m∈M,m.2∈G.map (·.1)
theorem Qjp{G:zI7}(b:(G.map (·.1)).Nodup)(a:g∈G)(c:g.1=q):(G.find? (jQ g q))=sO g:=by
 induction G with
 |nil=>cases a
 |cons x G d=>
  rw[ND,ES]at b;rw[N9]
  show kD a
  ·simp[c]
  ·have:¬x.1=q:=λz=>b.1 (by rw[z,<-c];exact EZ a);simp only[this,decide_false];exact d b.2 a
theorem Qfi{G:zI7}(h:q∉G.map (·.1)):(G.find? (jQ g q))=nO:=by
 rw[Io];intro g a;simp;exact λz=>h (by rw[<-z];exact EZ a)
theorem Qfm(I:WB M G Ls){q:κ}(h:q∉G.map (·.1)):wa M q=[]:=by
 unfold wa;rw[List.map_eq_nil_iff,OW];intro m a;simp;exact λz=>h (by rw[<-z];exact I.all m a)
theorem WB.step(I:WB M G Ls)(m:ι×κ) :
  (∃g∈G,g.1=m.2/\g.2<Ls.length/\WB (M++[m]) G ((Ls++[[]]).set g.2 (wa M m.2++[m.1]))/\(Ls++[[]])[g.2]?=sO (wa M m.2)) \/
  (m.2∉G.map (·.1)/\WB (M++[m]) (G++[(m.2,Ls.length)]) ((Ls++[[]]).set Ls.length [m.1])):=by
 by_cases n:m.2∈G.map (·.1)
 ·obtain⟨g,o,r⟩:=NI.mp n;have u:=I.at_ g o;have s:=bX u;refine .inl ⟨g,o,r,s,⟨I.nk,I.ni,bG x f,bG x f⟩,by rw[NJ s,u,r]⟩
  ·have d:=I.at_ x f;have c:=bX d
   by_cases e:x=g
   ·subst e;rw[EX (by simp;exact Ni c cJ),Gu,if_pos r.symm,r]
   ·have ne:g.2≠x.2:=λz=>e (by
     obtain⟨i,y,ei⟩:=D6.mp f;obtain⟨j,w,v⟩:=D6.mp o;have:=(L9 (i:=i) (j:=j) (h₀:=cN y) (h₁:=cN w) I.ni).mp (by simp[ei,v,z]);subst this
     rw[<-ei,<-v])
    have l:¬m.2=x.1:=λz=>e (by
     obtain⟨i,y,ei⟩:=D6.mp f;obtain⟨j,w,v⟩:=D6.mp o;have:=(L9 (i:=i) (j:=j) (h₀:=cN y) (h₁:=cN w) I.nk).mp (by simp[ei,v,<-z,r]);subst this
     rw[<-ei,<-v])
    rw[EJ ne,NJ c,d,Gu,bQ l]
  ·show iV f h
   ·exact I.all x h
   ·rw[gF h];exact n
 ·refine .inr ⟨n,⟨?_,?_,bG x f,bG x f⟩⟩
  ·rw[Ey,Ew];exact⟨I.nk,aP,λa A b t=>by show hX t;exact λz=>n (uX z A)⟩
  ·rw[Ey,Ew];refine⟨I.ni,aP,eE a A b t⟩;show hX t;show i5 g o A;have:=(Nd.mp (I.at_ g o)).1;exact NB this
  ·show iV f h
   ·have d:=I.at_ x h;have c:=bX d;have l:¬m.2=x.1:=λz=>n (by rw[z];exact EZ h);rw[EJ (EC c),NJ c,d,Gu,bQ l]
   ·rw[gF h];show((Ls++[[]]).set Ls.length [m.1])[Ls.length]?=sO (wa (M++[m]) m.2);rw[EX aB,Gu,fO,Qfm I n];rfl
  ·show iV f h
   ·have:=I.all x h;simp at this ⊢;exact .inl this
   ·rw[gF h];simp
#print "-"
section
variable{bs ws:aO}{p:bM}
theorem Qdi{met st out:cD}(d:E'):(∀s∈met,∀t∈A8,t∈met\/t∈st)->∀s∈out,∀t∈A8,Cc:=by
 induction d with
 |done=>intro h s e t b;rcases h s e t b with z|z;exact z;cases z
 | @skip met st out s n h d c=>
  intro H;refine c (eE u a t b)
  rcases H u a t b with z|z
  ·exact eH z
  ·show kD z
   ·exact eH h
   ·exact k6 z
 | @add met st out s n h d c=>
  intro H;refine c (eE u a t b)
  rcases NU.mp a with a|a
  ·rcases H u a t b with z|z
   ·exact .inl (Em _ z)
   ·show kD z
    ·exact .inl aB
    ·exact .inr (N4 _ z)
  ·rw[gF a]at b;exact .inr (Em _ b)
theorem Qme{met st out:cD}(d:E'):(∀s∈met,s∈out)/\∀s∈st,s∈out:=by
 induction d with
 |done=>exact⟨λ_ h=>h,λ_ h=>jC h⟩
 |@skip met st out s n h d b=>exact⟨b.1,λt a=>by show kD a;exact b.1 _ h;exact b.2 t a⟩
 |@add met st out s n h d b=>exact⟨λt a=>b.1 t (Em _ a),λt a=>by show kD a;exact b.1 _ aB;exact b.2 t (N4 _ a)⟩
structure Al(p:bM)(out:cD):Prop where
 few:out.length<=280010
 pos:0<out.length
 nd:out.Nodup
 rc:∀s∈out,jX
 cl:∀s∈out,∀t∈A8,Cc
 s:∀h:MH,Zn A9 h=sO (.lst eY,h)
 a:∀h:MH,JR [Zx p,Vh p] h=sO (.lst eY,h)
 nx2:∀s∈out,Hr<=2/\(∀h:MH,QJ vC h=sO (.lst Go,h))/\∀h:MH,ZU T4 h=sO (.lst Go,h)
theorem QqA(a:jM):∃out,jW:=by
 obtain⟨n,out,d,h,b,f,c,e⟩:=Qg0 a;refine⟨out,b,OX ((Qme d).2 sp0 aB),f,c,Qdi d aB,e,Qdf a d h,bG s g⟩;obtain⟨l,_,_,j,i⟩:=QdX a (c s g);exact⟨l,j,i⟩
noncomputable def ixS(out:cD)(t:Spt):Nat:=out.idxOf t
noncomputable def sq(out:cD)(q:Nat):Spt:=out.getD q sp0
theorem Qgp(h:za5):out[q]?=sO eU:=by
 unfold sq;rw[D1,Nj h];rfl
theorem UP(h:za5):sq out q∈out:=NN.mpr ⟨q,Qgp h⟩
theorem Qgk(h:Cc):tD<out.length:=EU h
noncomputable def Ed(p:bM)(out:cD)(q:Nat):d9:=(nx p eU).map λt=>(q,tD)
noncomputable def Eg(p:bM)(out:cD)(n:Nat):d9:=(List.range n).flatMap (Ed p out)
theorem QlW:Eg p out (n+1)=C5 n++Ed p out n:=by
 unfold Eg;rw[OD];simp
theorem Qi4(A:jW)(h:n<=out.length):(Eg p out n).length<=2*n:=by
 have:=Qgz (f:=Ed p out) (n:=2) (List.range n) λq a=>by
  unfold Ed;rw[Ny];exact(A.nx2 _ (UP (by have:=Ep.mp a;exact Ni this h))).1
 rwa[D3]at this
theorem Qn8[Bt κ]{M:List (a×κ)}:(wa M q).length<=M.length:=by unfold wa;rw[Ny];exact Df _ _
noncomputable def Z5(q:Nat):W:=aC q
@[simp]theorem Qrh{l:aZ}:JC zf0=true:=by
 induction l with
 |nil=>rfl
 |cons n l a=>simp[Z5];exact a
#print "-"
section
variable{bs ws:aO}{p:bM}{out:cD}
noncomputable def plW(s:Spt):W:=if sP then .non else ZT (s.part,s.k)
@[simp]theorem QqZ:pur (plW s)=true:=by unfold plW;split<;>simp
theorem Wn:Zp [QF s] h=sO (plW s,h):=by
 refine QH (g:=[]) aB ?_ aB;show Fr a;cases head<;>simp[Kj,QM,QF,plW,ZT]
noncomputable def lnO(p:bM)(s:Spt):Option Ln:=if sP then nO else(p[s.part]?).bind λx=>zj7
noncomputable def lnW(p:bM)(s:Spt):W:=match lnO p s with
 |dY l=>Zl l
 |none=>.non
@[simp]theorem QrU:pur (lnW p s)=true:=by unfold lnW;split<;>simp
theorem QqE:mdS p s=(lnO p s).bind wdL:=by
 unfold mdS lnO;split
 ·rfl
 ·cases p[s.part]?<;>rfl
theorem QeV(d:SV p s):QT vC h=sO (lnW p s,h):=by
 obtain⟨x,a,f,_⟩:=d.ex;unfold lnW lnO;rw[a,Nk];cases c:s.head with
 |true=>exact WI a (iQ c)
 |false=>
  simp only[Er,if_false]
  by_cases b:s.k=dP
  ·rw[NW (cL b)];exact WI a (.inr b)
  ·have e:zj7=sO (x.2[s.k]' aH):=Nj bR;rw[e];exact QaL a c e
theorem YQ(n:gC)(m:SV p s):Q4 [lnW p s] h=sO (Qaf (mdS p s),h):=by
 refine QH (g:=[]) aB ?_ aB;obtain⟨x,j,q,_⟩:=m.ex;rw[QqE];unfold lnW;cases e:lnO p s with
 |none=>simp[J4,QM,Qaf]
 | some l=>
  unfold lnO at e;split at e
  ·cases e
  ·rw[j,Nk]at e;have d:=n.ok _ x j l (NN.mpr ⟨_,e⟩);show TR d;rw[Nk];have i:Xm (Zl (y::r))=false:=rfl
   by_cases f:y="pair"
   ·subst f;obtain⟨a,w,b,c,rfl⟩:=Qjg d;have o:∀h,ja3=sO (c4 w,h):=λh=>by simp[Zl]
    simp[J4,QM,i,o,wdL,Qaf]
   ·have:=Qbw (r:=r) f;simp[J4,QM,i,f,this,Qaf]
noncomputable def nm(Z:zG0):kH:=Z.map λq=>(QF q.1,tJ)
theorem QiS:Y7 (nm Z) tM=(Z.find? (jQ q s)).map λq=>tJ:=by
 unfold Y7 nm
 induction Z with
 |nil=>rfl
 |cons q Z a=>
  rw[ND,N9,N9]
  by_cases e:q.1=s
  ·simp[e,Qa5]
  ·have:¬trS q.1=trS s:=λz=>e (QeF z);simp only[Qa5,Option.some.injEq,this,e,decide_false];exact a
theorem Qp7:∀(r a:zG0),((a++r).map (·.1)).Nodup->mgQ (nm a) (jf6 r)=nm (a++r):=by
 intro r
 induction r with
 |nil=>
  intro a _;simp[mgQ]
 | cons q r c=>
  intro a b
  have d:q.1∉a.map (·.1):=λz=>by
   rw[Ey,Ew]at b;exact b.2.2 _ z q.1 aB rfl
  have e:Qcg (nm a) (trS q.1) (QF q.1) (.int q.2)=nm (a++[q]):=by
   unfold Qcg;rw[QiS,Qfi d];simp[nm]
  unfold mgQ;rw[ND,OC,e];have:=c (a++[q]) (bZ b);unfold mgQ at this;rw[this];simp
theorem QgW:∀(out:cD) (k:Nat),Cc->((out.zipIdx k).find? (jQ q t))=sO (t,k+tD):=by
 intro out
 induction out with
 |nil=>
  intro _ h;cases h
 | cons s out a=>
  intro k h;unfold ixS;rw[List.zipIdx_cons,N9,List.idxOf_cons]
  show AW e s t
  ·have b:(s==t)=false:=cN e
   have:=a (k+1) (by show Mw h z;exact absurd z.symm e;exact z);simp only[e,decide_false,this,b,cond_false];unfold ixS;rw[show k+1+out.idxOf t=k+(out.idxOf t+1) by exact Dh _ _ _]
theorem Qmb:∀(Z:zG0),prQ (Z.map Rs)=sO (jf6 Z):=by
 intro Z
 induction Z with
 |nil=>
  exact rfl
 |cons q Z a=>
  rw[ND,prQ,Qa5,Nk,a];rfl
theorem Qno(b:h[n]?=sO (.dct Hj))(a:Cc):QmU (aD n) (QF t) h=sO (.int (ixS out t),h):=by
 unfold QmU;have:Qah h (aD n)=sO Hj:=T9 b
 rw[this,Nk,Qa5,Nk,QiS,QgW out 0 a];simp
theorem Qql(a:Cc):sq out (ixS out t)=t:=by
 have b:=Qgp (Qgk a);rw[Nj (Qgk a)]at b;have c:out[tD]'(Qgk a)=t:=DS (Qgk a);exact(N2 b).symm.trans c
noncomputable def stW(p:bM)(out:cD)(e:hF):W:=.tup [tZ e,lnW p sI,.int e.2,plW (sq out e.2)]
@[simp]theorem Qqq{l:d9}:JC (l.map gJ)=true:=by
 induction l with
 |nil=>rfl
 |cons e l a=>simp[stW];exact a
noncomputable abbrev tS(p:bM)(out:cD)(x4 x5 x6 x7:bY):MSt:=[fZ,sO (.lst eY),sO b',sO eP,x4,x5,x6,x7]
noncomputable abbrev tH(p:bM)(out:cD)(L:d9):MH:=[.dct Hj,.lst (L.map gJ)]
noncomputable def swp:W->W
 |.tup [a,b]=>.tup [b,a]
 |w=>w
theorem Qg1(A:jW)(h:MH):Vg A9 h=sO (.lst ((Eg p out out.length).map gJ),h):=by
 have y:=A.few;have f:(ZR eY).length=out.length:=by simp[ZR]
 have Y:∀c:MSt,c[1]?=sO (sO (.lst eY))->Z4 V8 (JF (Qc aL Ql)) nL qG YF (mFn Zs (Qc aL (Qc aG Ql))) c []=sO (.lst (out.zipIdx.map Rs),[]):=by
  intro c E
  have x:JF (Qc aL Ql) c []=sO (ZR eY,nO,[]):=by
   unfold JF Qc Qg;rw[E];rfl
  have U:=Qe0 (fin:=V8) (mi:=JF (Qc aL Ql)) (cp:=nL) (b:=P0) (me:=mFn Zs (Qc aL (Qc aG Ql))) (σ:=c) (h:=[]) (items:=ZR eY) (λC=>C.length=2) swp x rfl (λw hw C D=>by
   unfold ZR at hw;show rQ q
   match C,D with
   |[a,b],_=>exact⟨[sO (.int q.2),sO q.1],rfl,rfl,by simp[swp]⟩) (by rw[f];exact X6 (Nw (Np y aE)))
  rw[U]
  have:(ZR eY).map swp=out.zipIdx.map Rs:=by
   unfold ZR;rw[List.zipIdx_map];simp[swp,DC]
  show wW
 have X:X8 [.lst (out.zipIdx.map Rs)] []=sO (hJ,[.dct Hj]):=by
  unfold X8;simp only[lsW,Nk,Qmb];rw[if_pos (by rw[Ny,Fy];exact Nw (Np y aE))];have:=Qp7 out.zipIdx [] (by rw[DZ,List.zipIdx_map_fst];exact A.nd);rw[show nm []=[]from rfl]at this;show wW
 have r:=Va (items:=ZR eY) (b:=ZQ [4,5]) (body:=Yf) (λn c h=>∃(o m l d:bY),c=tS p out o m l d/\h=tH p out (Eg p out n))
  (ZR eY) 0 (tS p out nO nO nO nO) (tH p out []) ⟨nO,nO,nO,nO,rfl,rfl⟩ (by
   rintro j w B c h ⟨o,m,l,d,rfl,rfl⟩
   rw[NR]at *;have e:=bX B;rw[f]at e;unfold ZR at B;rw[Nq,DA,Nq,Qgp e]at B;obtain rfl:W.tup [.int (j:Nat),QF gK]=w:=cN B
   refine⟨tS p out (bL j) (sO (QF gK)) l d,rfl,?_⟩;have F:=UP e;obtain⟨Z,en,_⟩:=A.nx2 _ F
   have inner:=Va (items:=(nx p gK).map QF) (b:=ZP 7) (body:=Yp) (λn c h=>∃(d:bY),c=tS p out (bL j) (sO (QF gK)) (sO (lnW p gK)) d/\h=tH p out (C5 j++((nx p gK).take n).map λt=>(j,tD)))
    ((nx p gK).map QF) 0 (tS p out (bL j) (sO (QF gK)) (sO (lnW p gK)) d) jp6 ⟨d,rfl,aP⟩ (by
     rintro i w x c h ⟨H,rfl,rfl⟩
     rw[NR,Nq]at *;show s9 t I x;have u:=A.cl _ F t (j7 i I);refine⟨tS p out (bL j) (sO (QF gK)) (sO (lnW p gK)) yX,rfl,tS p out (bL j) (sO (QF gK)) (sO (lnW p gK)) yX,_,lH,_,rfl,rfl⟩;have R:(C5 j++((nx p gK).take (i+1)).map λt=>(j,tD))=(C5 j++((nx p gK).take i).map λt=>(j,tD))++[(j,tD)]:=by rw[List.take_succ,I];simp
     rw[R];have Q:=Qi4 A (n:=j) (Nw e);generalize hL:(C5 j++((nx p gK).take i).map λt=>(j,tD))=L;have G:L.length<=600000:=by rw[<-hL,NK,Ny,E3];lia
     have N:SE:=Np G aE;have en:=Qno (h:=tH p out L) (n:=0) rfl u;have S:=Qql u
     simp[en,Wn,N,stW,S])
   obtain⟨J,h2,z,H,rfl,rfl⟩:=inner;rw[Ny,NR,Dj]at z;refine⟨tS p out (bL j) (sO (QF gK)) (sO (lnW p gK)) H,tH p out (Eg p out (j+1)),lH,_,_,_,_,rfl,rfl⟩;rw[QlW]
   have ei:Zb (Qv 2 QJ (Qc aG (Qc c5 Ql))) (tS p out (bL j) (sO (QF gK)) (sO (lnW p gK)) d) jp6=sO ((nx p gK).map QF,nO,tH p out (Eg p out j)):=by
    unfold Zb;simp[en];rfl
   have T:∀h,QT [Zx p,QF gK] h=sO (lnW p gK,h):=λh=>QeV (A.rc _ F).v
   simp[Ve,T,ei,z,Ed])
 obtain⟨M,h',z,o,m,l,d,rfl,rfl⟩:=r;rw[f,NR,show tH p out []=[MO.dct Hj,MO.lst []]from rfl]at z;have x:∀o m l d h,JF (Qc aL Ql) (tS p out o m l d) h=sO (ZR eY,nO,h):=λ_ _ _ _ _=>rfl;refine Ga (j:=1) (g:=tH p out jv5) aB ?_ rfl aB;have P:=Y [fZ,sO (.lst eY),nO,nO,nO,nO,nO,nO] rfl;have O:=x nO nO nO nO;simp[Kc,QM,Ve,A.s,P,X,O,z]
#print "-"
section
variable{N:Nat}{bs ws:aO}{p:bM}
theorem Qpv(m:gC)(h2:p.length<=2)(h:jX):(s.way=[]/\s.part=0)\/∃x j l,p[0]?=sO x/\s.way=[(0,j)]/\s.part=1/\x.2[j]?=sO l/\oH:=by
 obtain⟨y,n,_⟩:=h.v.ex;have G:=bX n;generalize hw:s.way=way at *;generalize u:s.part=q at *;have c:=h.c;rw[hw,u]at c;cases c with
 |nil=>exact .inl gD
 | @snoc r _ i k _ x l b A f g w=>
  obtain⟨g1,g2⟩:=Qg2 m f (EK g) w;have z:i=0:=aQ
  subst z
  have t:r=[]:=by
   cases A with
   |nil=>rfl
   |@snoc C _ F E _ B D o H a d e=>
    obtain⟨g3,_⟩:=Qg2 m a (EK d) e;lia
  subst t;exact .inr ⟨x,k,l,f,b,aQ,g,g2⟩
noncomputable def rkD(L:eW)(j:Nat):Nat:=dcn (L.take j)
theorem Gd(h:L[j]?=sO l)(hd:oH):rkD L (j+1)=rkD L j+1:=by
 unfold rkD;rw[Dq,h,Di,Gf,hd];rfl
theorem Qcn(h:i<=j):rkD L i<=rkD L j:=by
 unfold rkD dcn;exact OY (List.take_sublist_take_left h)
theorem Qml(h:L[j]?=sO l)(hd:oH):rkD L j<dcn L:=by
 have b:=Gd h hd
 have a:rkD L (j+1)<=dcn L:=by
  unfold rkD dcn;exact OY (LR _ _)
 exact Ni (Ni oZ (cL b)) a
theorem QjL(b:L[i]?=sO l)(d:oH)(a:L[j]?=sO m)(c:U8 m=true)(e:rkD L i=rkD L j):i=j:=by
 rcases FC i j with z|z|z
 ·have:=Qcn (L:=L) (zc0 i j);rw[Gd b d]at this;lia
 ·exact z
 ·have:=Qcn (L:=L) (zc0 j i);rw[Gd a c]at this;lia
noncomputable def QlK(s:Spt):Nat:=if sP then 1 else 0
theorem QbX(s:Spt):QlK s<=1:=by unfold QlK;split<;>exact d5
noncomputable def Gb(L:eW)(s:Spt):Nat:=match s.way with
 |[]=>2*s.k+QlK s
 |(_,j)::_=>26+((rkD L j*6+s.k)*2+QlK s)
theorem Qem(h:QlK s=QlK t):s.head=t.head:=by
 unfold QlK at h;cases a:s.head<;>cases b:t.head<;>simp[a,b]at h ⊢
theorem QpK(B:gC)(h2:p.length<=2)(H:TwA p){L:cD}(P:L.Nodup)(h:∀s∈L,jX):L.length<=50:=by
 obtain⟨q,f⟩:∃x,p[0]?=sO x:=⟨_,Nj (Da.mpr B.ne)⟩
 obtain⟨M,d0,_,_⟩:=H.1 q f
 have r:∀s,jX->s.part=0->s.k<=12:=λs d e=>by
  obtain⟨y,w,E,_⟩:=d.v.ex;rw[e,f]at w;cases w;exact Nn E M
 have D:∀s,jX->s.part=1->s.k<=5:=λs d e=>by
  obtain⟨y,w,E,_⟩:=d.v.ex;rw[e]at w;have:=(H.2 0 y w).1;exact Nn E this
 have inj:∀s t,jX->Rc p t->Gb q.2 s=Gb q.2 t->s=t:=λs t d g e=>by
  have U:=QbX s;have T:=QbX t
  rcases Qpv B h2 d with⟨n,o⟩|⟨x,j,l,A,n,o,G,F⟩<;>rcases Qpv B h2 g with⟨z,C⟩|⟨y,i,m,J,z,C,Z,Y⟩
  ·have u:=r s d o;have O:=r t g C;show W';have I:s.k=t.k:=aQ
   have X:=Qem (s:=s) (t:=t) aH;show kR s t;simp_all
  ·have u:=r s d o;show W';lia
  ·have u:=r t g C;show W';lia
  ·have u:=D s d o;have O:=D t g C;rw[f]at A J;show kR A J;show W';have I:rkD q.2 j=rkD q.2 i:=aQ
   have e3:s.k=t.k:=aQ
   have X:=Qem (s:=s) (t:=t) aH;have e4:=QjL G F Z Y I;show kR s t;simp_all
 have:=KD 50 (L.map (Gb q.2)) ?_ ?_
 ·rwa[Ny]at this
 ·rw[List.Nodup,DE];exact Fk (λ{a b} S R ne e=>ne (inj a b (h a S) (h b R) e)) P
 ·intro c Q;show i5 s d Q;have U:=QbX s
  rcases Qpv B h2 (h s d)with⟨n,o⟩|⟨x,j,l,A,n,o,G,F⟩
  ·have u:=r s (h s d) o;simp only[Gb,n];lia
  ·have u:=D s (h s d) o;show bK f A;have:=Qml G F;simp only[Gb,n];lia
#print "-"
section
variable{N:Nat}{bs ws:aO}{p:bM}{out:cD}
theorem U0:ZR eY=(List.range out.length).map λq=>.tup [.int (q:Nat),QF eU]:=by
 unfold ZR;show wF q;rw[Nq,DA,Nq,Nq]
 by_cases h:za5
 ·rw[Qgp h,Dr h];simp
 ·rw[NW (hP h),NW (bZ h)];rfl
noncomputable def mkr(p:bM)(out:cD):aZ:=(List.range out.length).filter λq=>(mdS p eU).isSome
noncomputable def gM(p:bM)(out:cD)(w:W):Bool:=match w with|.tup [aC q,_]=>zp9|_=>false
noncomputable def fsW(w:W):W:=match w with|.tup (a::_)=>a|w=>w
theorem QaP(r:gC)(A:jW)(h:MH):Q8 A9 h=sO (.lst ((mkr p out).map Z5),h):=by
 have f:=A.few;refine QH (g:=[]) aB ?_ (eC Z5)
 have o:JF (Qc (Qv 1 Zn (Qc aG Ql)) Ql) [fZ] []=sO (ZR eY,nO,[]):=by
  have e:(Qc (Qv 1 Zn (Qc aG Ql)) Ql) [fZ] []=sO ([.lst eY],[]):=by simp[A.s]
  unfold JF;rw[e];rfl
 have i:=QbE (fin:=V8) (mi:=JF (Qc (Qv 1 Zn (Qc aG Ql)) Ql)) (cp:=[nO,nO,sO 0]) (b:=P0) (mt:=Qy (Qn Kb (Qv 1 Q4 (Qc (Qv 2 QT (Qc aR (Qc aL Ql))) Ql)) fB)) (me:=Qg 0) (σ:=[fZ]) (h:=[]) (items:=ZR eY) (src:=nO) (λj=>∃a b,j=[a,b,fZ]) (gM p out) fsW o (Zt _ _) mZ (λw hw j c=>by
  rw[U0]at hw;show uI q n;have d:=Ep.mp n;obtain⟨a,b,rfl⟩:=c;have l:=zL6 d;have y:∀h,QT [Zx p,QF eU] h=sO (lnW p eU,h):=λh=>QeV l;have x:∀h,Q4 [lnW p eU] h=sO (Qaf (mdS p eU),h):=λh=>YQ r l;refine⟨[eB q,sO (QF eU),fZ],rfl,mZ,?_,λ_=>by simp[fsW]⟩;have u:gM p out (.tup [aC q,QF eU])=(mdS p eU).isSome:=rfl;rw[u];have t:Xm (Qaf (mdS p eU))=(mdS p eU).isNone:=by cases mdS p eU<;>rfl
  simp[y,x,t]) (by rw[U0];simp;exact X6 (Nw (Np f aE)))
 have em:((ZR eY).filter (gM p out)).map fsW=(mkr p out).map Z5:=by
  rw[U0,Lg,ED];rfl
 rw[em]at i;simp only[V8]at i;simp[VN,QM,i]
#print "-"
noncomputable def trQ(q:Pl):Tr:=.t Tl
@[simp]theorem Qdv:nrm p0=sO C2:=by
 show UO 8 (.tup [tZ q,tJ])=_;simp only[UO,Ir,Yaq];rfl
theorem QeN(h:trQ a=trQ b):a=b:=by
 unfold trQ at h;show qN h
 simp at h;exact YaZ (by have:=h.1;lia) (by have:=h.2;lia)
theorem isSome_valQ:(Y7 kvs t).isSome=true↔∃p∈kvs,tQ=sO t:=by
 unfold Y7;rw[D4,LZ];simp
theorem QhV(b:nrm d=sO k):(∃p∈Qcg kvs k d v,tQ=sO t)↔(∃p∈kvs,tQ=sO t)\/k=t:=by
 unfold Qcg
 by_cases c:zC2=true
 ·rw[bH c];have g:=isSome_valQ.mp c;constructor
  ·rintro⟨p,a,e⟩
   show i5 q f a;refine .inl ⟨q,f,?_⟩
   by_cases z:nrm q.1=sO k
   ·rw[bH z]at e;exact e
   ·rw[bQ z]at e;exact e
  ·rintro(⟨p,a,e⟩|rfl)
   ·refine⟨_,EZ a,?_⟩
    by_cases z:tQ=sO k
    ·rw[bH z];exact e
    ·rw[bQ z];exact e
   ·show fT p a e g;refine⟨_,EZ a,?_⟩;rw[bH e];exact e
 ·rw[bQ c];constructor
  ·rintro⟨p,a,e⟩
   show iV a z
   ·exact .inl ⟨p,z,e⟩
   ·rw[NG]at z;subst z;rw[b]at e;exact .inr (N2 e)
  ·rintro(⟨p,a,e⟩|rfl)
   ·exact⟨p,Em _ a,e⟩
   ·exact⟨_,N4 _ HL,b⟩
theorem QjG:∀(ps:Hn) (a:kH),(∀q∈ps,nrm q.2.1=sO q.1)->((∃p∈mgQ a ps,tQ=sO t)↔(∃p∈a,tQ=sO t)\/∃q∈ps,q.1=t):=by
 intro ps
 induction ps with
 |nil=>
  intro a _;simp[mgQ]
 |cons q ps b=>
  intro a h;have e:mgQ a (q::ps)=mgQ (Qcg a q.1 q.2.1 q.2.2) ps:=rfl;rw[e,b _ (jT x c h),QhV (h q NF)];simp[or_assoc]
theorem QmR:∀(Z:eQ),prQ (Z.map λq=>.tup [ZT q,g7])=sO zZ7:=by
 intro Z
 induction Z with
 |nil=>
  exact rfl
 |cons q Z a=>
  rw[ND,prQ,Qdv];simp only[Nk];rw[a];rfl
theorem QjM:∀(Z:aZ) (a:dM W) (g:Nat->W),Z.Nodup->(∀z∈Z,∀q∈a,q.1≠MQ z)->QdV a (Z.map Rt)=a++Z.map Rt:=by
 intro Z
 induction Z with
 |nil=>
  intro a g _ _;simp[QdV]
 | cons z Z i=>
  intro a g d h;rw[ES]at d;have e:QdV a ((z::Z).map Rt)=QdV (QaY a (vP z) (g z)) (Z.map Rt):=rfl
  have j:QaY a (vP z) (g z)=a++[(MQ z,g z)]:=by
   unfold QaY;rw[if_neg];show ja4;exact λq b=>h z NF q b
  rw[e,j,i _ g d.2 (eE y f q b)]
  ·simp
  ·show iV b c
   ·exact h y (NA _ f) q c
   ·rw[NG]at c;subst c;intro w;show qN w
    exact d.1 (by rw[show z=y by lia];exact f)
theorem Qhp(a:vL)(e:m ws []=sO (aF j,g))(c:g[j]?=sO o)(b:oI):box frR m ws h=sO (eX,h++[o]):=by
 unfold box;rw[QeW a,Nk];show ji8;rw[zo3];simp[frR,th,res,W4,Z8,Q0,c,WG _ o b]
section
variable{N:Nat}{bs ws:aO}{p:bM}{out:cD}{M:iM}
noncomputable def shL(M:iM)(out:cD)(w:Str):aZ:=(List.range out.length).filter λq=>decide (w∈gn M eU)
noncomputable def dK(L:aZ):dM W:=L.map λq:Nat=>(MQ q,g7)
theorem Qjs{q:Nat}:(Wc (dK L) (vP q)).isSome=decide (q∈L):=by
 unfold Wc dK;rw[D4]
 show Co L
 ·rw[m2 c,LZ];exact⟨_,EZ c,aP⟩
 ·rw[lY c,LM,L7,Io];intro x b;show i5 y a b;simp;intro z;exact c (by rw[<-show y=q by lia];exact a)
noncomputable def gW(w:Str)(x:W):Bool:=match x with|.tup [c4 a,_]=>decide (a=w)|_=>false
noncomputable def f1W(x:W):W:=match x with|.tup [_,q]=>.tup [q,g7]|w=>w
noncomputable def f2W(x:W):W:=match x with|.tup [q,_]=>.tup [q,g7]|w=>w
noncomputable def gS(M:iM)(out:cD)(w:Str)(x:W):Bool:=match x with|.tup [aC q,_]=>decide (w∈gn M (sq out q.toNat))|_=>false
theorem in_gn:w∈gn M s↔s.head=false/\(w,(s.part,s.k))∈M:=by
 unfold gn;cases s.head with
 |true=>simp
 |false=>
  simp only[Er,if_false,NI,DT,decide_eq_true_eq,true_and];constructor
  ·rintro⟨m,⟨b,a⟩,rfl⟩;rw[<-a];exact b
  ·intro h;exact⟨_,C6 h,rfl⟩
theorem Qee(A:jW)(l:uS)(F:yC)(h:MH):ZI [Zx p,n5 M,c4 w] h=sO (eX,h++[.dic (dK m5)]):=by
 have S:=A.few
 have n:=QbE (fin:=V8) (mi:=Zb aL) (cp:=[nO,nO,sO 2]) (b:=P0) (mt:=Qy (Qn wEq aG aR)) (me:=mFn Zs (Qc aL (Qc j6 Ql))) (σ:=[fZ,sO hU,nE w,nO]) (h:=[]) (items:=M.map VJ) (src:=nO) (λi=>∃a b,i=[a,b,nE w]) (gW w) f1W rfl (Zt _ _) mZ (λx d i f=>by
  obtain⟨m,hm,rfl⟩:=NI.mp d;obtain⟨a,b,rfl⟩:=f;refine⟨[sO (.str m.1),sO (ZT m.2),nE w],rfl,mZ,?_,λ_=>by simp[f1W,VJ]⟩;simp[gW,VJ]
  rw[IY];simp) (by simp;exact X6 (Nw (Np F aE)))
 have Y:((M.map VJ).filter (gW w)).map f1W=((M.filter λm=>m.1=w).map (·.2)).map λq=>.tup [ZT q,g7]:=by
  rw[Lg,ED,ED];rfl
 rw[Y]at n;generalize E:(M.filter λm=>m.1=w).map (·.2)=Z at n;have O:Z.length<=100000:=by rw[<-E,Ny];exact Nn (Df _ _) F
 generalize G:mgQ [] zZ7=D
 have t:∀q:Pl,(Y7 D C2).isSome=decide (q∈Z):=λq=>by
  have z:(Y7 D C2).isSome=true↔q∈Z:=by
   rw[isSome_valQ,<-G,QjG _ _ (λx d=>by obtain⟨y,_,rfl⟩:=NI.mp d;exact Qdv)];constructor
   ·rintro(⟨_,h,_⟩|⟨x,d,e⟩)
    ·cases h
    ·show i5 y Q d;rw[<-QeN e];exact Q
   ·intro B;exact .inr ⟨_,EZ B,rfl⟩
  show Co Z
  ·rw[z.mpr c,m2 c]
  ·rw[lY c,YaW];exact λy=>c (z.mp y)
 have R:JF (Qc (Qv 1 Zn (Qc aG Ql)) Ql) [fZ,sO hU,nE w,sO b'] qZ=sO (ZR eY,nO,qZ):=by
  have e:(Qc (Qv 1 Zn (Qc aG Ql)) Ql) [fZ,sO hU,nE w,sO b'] qZ=sO ([.lst eY],qZ):=by simp[A.s]
  unfold JF;rw[e];rfl
 have v:=QbE (fin:=V8) (mi:=JF (Qc (Qv 1 Zn (Qc aG Ql)) Ql)) (cp:=[nO,nO,sO 3]) (b:=P0) (mt:=Qy (Qn QdJ (Qv 1 Zp (Qc aL Ql)) aR)) (me:=mFn Zs (Qc aG (Qc j6 Ql))) (σ:=[fZ,sO hU,nE w,sO b']) (h:=qZ) (items:=ZR eY) (src:=nO) (λi=>∃a b,i=[a,b,sO b']) (gS M out w) f2W R (Zt _ _) mZ (λx d i f=>by
  rw[U0]at d;show i5 q B d;obtain⟨a,b,rfl⟩:=f;refine⟨[eB q,sO (QF eU),sO b'],rfl,mZ,?_,λ_=>by simp[f2W]⟩;have u:∀h,Zp [QF eU] h=sO (plW eU,h):=λh=>Wn
  have ei:QdJ (plW eU) b' qZ=sO (.bl (decide (w∈gn M eU)),qZ):=by
   have hd:Qah qZ b'=sO D:=rfl;unfold plW;cases C:(sq out q).head with
   |true=>
    have:¬w∈gn M eU:=λz=>by have:=(in_gn.mp z).1;show lX C
    rw[fO,decide_eq_false this];unfold QdJ;simp only[hd,N7]
   | false=>
    rw[if_neg aB];show Qc4 false (ZT _) b' qZ=_;unfold Qc4;simp only[hd,Qdv,Nk,N7,t,Er,if_false]
    have:(decide (((sq out q).part,(sq out q).k)∈Z))=decide (w∈gn M eU):=by
     rw[decide_eq_decide,in_gn,<-E];simp[C]
    rw[this]
  have T:gS M out w (.tup [aC q,QF eU])=decide (w∈gn M eU):=rfl;rw[T]
  simp[u,ei]) (by rw[U0];simp;exact X6 (Nw (Np l aE)))
 have X:((ZR eY).filter (gS M out w)).map f2W=(shL M out w).map λq:Nat=>.tup [aC q,g7]:=by
  rw[U0,Lg,ED];rfl
 rw[X]at v;have P:(shL M out w).length<=50:=Nn (Df _ _) (Bv D3 l);refine Qhp (j:=1) (g:=[.dct D,.dic (dK m5)]) (by simp[VJ,ZT]) ?_ rfl ?_
 ·have u:prW ((shL M out w).map λq:Nat=>.tup [aC q,g7])=sO (dK m5):=by
   generalize Bs=L
   induction L with
   |nil=>rfl
   |cons q L r=>rw[ND,prW,r];rfl
  have em:QdV [] (dK m5)=dK m5:=by
   have:=QjM m5 [] (λ_=>g7) (Ol.filter _) (λ_ _ _ h=>tU h);simpa[dK]using this
  have U:∀h:MH,KM [.lst ((shL M out w).map λq:Nat=>.tup [aC q,g7])] h=sO (eX,h++[.dic (dK m5)]):=λh=>by
   unfold KM;have:lsW h (.lst ((shL M out w).map λq:Nat=>.tup [aC q,g7]))=sO ((shL M out w).map λq:Nat=>.tup [aC q,g7]):=rfl;simp only[this,Nk,u,em];rw[if_pos (by unfold dK;rw[Ny];exact Nn P aE)]
  have eq:∀h:MH,X8 [.lst (Z.map λq=>.tup [ZT q,g7])] h=sO (eX,h++qZ):=λh=>by
   unfold X8;have:lsW h (.lst (Z.map λq=>.tup [ZT q,g7]))=sO (Z.map λq=>.tup [ZT q,g7]):=rfl;simp only[this,Nk,QmR,G];rw[if_pos (by rw[Ny];exact Nn O aE)]
  simp only[V8]at n v;simp[VR,QM,n,v,eq,U]
 ·unfold dK;generalize Bs=L;simp[Wo]
  induction L with
  |nil=>rfl
  |cons q L r=>show kQ r
#print "-"
section
variable{E:d9}{S:aZ}
noncomputable def swE(E:d9)(S:aZ):d9:=(E.filter λe=>decide (e.1∉S)).map λe=>(e.2,e.1)
noncomputable def sc(E:d9)(S:aZ)(n:Nat):aZ:=wa (swE E S) n
theorem mem_sc:m∈C1↔(n,m)∈E/\n∉S:=by
 unfold sc wa swE;simp only[NI,DT,decide_eq_true_eq];constructor
 ·rintro⟨a,⟨⟨e,⟨c,b⟩,rfl⟩,d⟩,rfl⟩
  show yP d;show k5 c b
 ·rintro⟨c,b⟩
  exact⟨(m,n),⟨⟨(n,m),fF c b,rfl⟩,rfl⟩,rfl⟩
inductive Rch(E:d9)(S:aZ)(a:Nat):zj9 where
 |here:Rch E S a a
 |step {n m:Nat}:Rch E S a n->n∉S->(n,m)∈E->Rch E S a m
noncomputable abbrev KX:=aZ×aZ
noncomputable def up(q:KX)(m:Nat):KX:=if m∈q.1 then q else(q.1++[m],q.2++[m])
noncomputable def ups(q:KX)(ms:aZ):KX:=ms.foldl up q
noncomputable def ly(E:d9)(S:aZ)(q:KX)(ns:aZ):KX:=ns.foldl (λq n=>ups q Bx) q
structure Gr(P:zj9)(q q':KX):Prop where
 ex:∃Z,q'.1=q.1++Z/\q'.2=q.2++Z/\∀z∈Z,P z
 nd:q.1.Nodup->q'.1.Nodup
theorem Gr.refl(q:KX):Gr P q q:=⟨⟨[],aP,aP,yO h⟩,id⟩
theorem Gr.trans(h:Gr P a b)(k:Gr P b c):Gr P a c:=by
 obtain⟨Z,j,i,g⟩:=h.ex;obtain⟨Y,f1,f2,f⟩:=k.ex;refine⟨⟨Z++Y,by rw[f1,j,FF],by rw[f2,i,FF],bG z d⟩,λe=>k.nd (h.nd e)⟩
 show iV d c
 ·exact g z c
 ·exact f z c
theorem Gr.imp(h:Gr P a b)(k:∀z,P z->R z):Gr R a b:=by
 obtain⟨Z,f,e,d⟩:=h.ex;exact⟨⟨Z,f,e,λz c=>k z (d z c)⟩,h.nd⟩
theorem Gr.sub(h:Gr P a b)(c:x∈a.1):x∈b.1:=by
 obtain⟨Z,d,_⟩:=h.ex;rw[d];exact Em _ c
theorem Qqu:Gr (·=m) q (up q m)/\m∈(up q m).1:=by
 unfold up
 by_cases c:m∈q.1
 ·rw[bH c];exact⟨wG,c⟩
 ·rw[bQ c];refine⟨⟨⟨[m],rfl,rfl,λz d=>gF d⟩,gR⟩,aP⟩;rw[Ew];exact⟨h,aP,λa f b e=>by rw[gF e];rintro rfl;exact c f⟩
theorem Qer:∀(ms:aZ) (q:KX),Gr (·∈ms) q (ups q ms)/\∀m∈ms,m∈(ups q ms).1:=by
 intro ms
 induction ms with
 |nil=>
  intro q;exact⟨wG,yO h⟩
 |cons m ms c=>
  intro q;obtain⟨g,f⟩:=Qqu (q:=q) (m:=m);obtain⟨b,d⟩:=c (up q m);refine⟨(g.imp λz e=>by rw[e];exact NF).trans (b.imp λz e=>NA _ e),bG x a⟩
  show kD a
  ·exact b.sub f
  ·exact d x a
theorem Qnj:∀(ns:aZ) (q:KX),Gr (λz=>∃n∈ns,z∈C1) q (ly E S q ns)/\∀n∈ns,∀m∈C1,m∈(ly E S q ns).1:=by
 intro ns
 induction ns with
 |nil=>
  intro q;exact⟨wG,yO h⟩
 |cons n ns d=>
  intro q;obtain⟨i,g⟩:=Qer Bx q;obtain⟨c,f⟩:=d (ups q Bx);refine⟨(i.imp λz e=>⟨n,NF,e⟩).trans (c.imp λz ⟨x,a,e⟩=>⟨x,NA _ a,e⟩),eE x a m b⟩
  show kD a
  ·exact c.sub (g m b)
  ·exact f x a m b
inductive Bf(E:d9)(S:aZ):Nat->aZ->aZ->aZ->Prop where
 |fin (K:aZ):Bf E S 0 K [] K
 |go {n:Nat} {K L K':aZ}:L≠[]->Bf E S n (ly E S Aa L).1 zy6 K'->Bf E S (n+1) K L K'
structure BI(E:d9)(S:aZ)(V a:Nat)(K L:aZ):Prop where
 nd:K.Nodup
 lt:∀x∈K,x<V
 st:a∈K
 sub:∀x∈L,x∈K
 cl:∀x∈K,x∉L->∀m∈sc E S x,m∈K
 rc:∀x∈K,Rch E S a x
theorem BI.next{V a:Nat}{K L:aZ}(I:BI E S V a K L)(q:∀e∈E,e.2<V):BI E S V a (ly E S Aa L).1 zy6/\K.length+(ly E S Aa L).2.length=(ly E S Aa L).1.length:=by
 obtain⟨g,h⟩:=Qnj (E:=E) (S:=S) L Aa;obtain⟨Z,i,j,l⟩:=g.ex;have o:=g.nd I.nd;simp only[DZ]at i j;refine⟨⟨o,bG x b,g.sub I.st,bG x b,λx b hL m f=>?_,bG x b⟩,by rw[i,j,NK]⟩
 ·rw[i]at b
  show iV b c
  ·exact I.lt x c
  ·obtain⟨n,_,f⟩:=l x c;exact q _ (mem_sc.mp f).1
 ·rw[j]at b;rw[i];exact N4 _ b
 ·rw[i]at b
  show iV b c
  ·by_cases d:x∈L
   ·exact h x d m f
   ·exact g.sub (I.cl x c d m f)
  ·exact absurd (Bv j c) hL
 ·rw[i]at b
  show iV b c
  ·exact I.rc x c
  ·obtain⟨n,p,f⟩:=l x c;obtain⟨s,r⟩:=mem_sc.mp f;exact .step (I.rc n (I.sub n p)) r s
theorem Qpg{V a:Nat}(j:∀e∈E,e.2<V):∀(f:Nat) (K L:aZ),BI E S V a K L->V-K.length<f->∃n g,Bf E S n K L g/\n<=f/\BI E S V a g []:=by
 intro f
 induction f with
 |zero=>
  intro K L _ h;exact pX h
 | succ f i=>
  intro K L I h
  by_cases c:L=[]
  ·subst c;exact⟨0,K,.fin K,NS _,I⟩
  ·obtain⟨J,e⟩:=I.next j;have o:=KD V _ J.nd J.lt
   by_cases d:zy6=[]
   ·refine⟨1,_,.go c (by rw[d];exact .fin _),by exact Eu _ _,by rw[d]at J;exact J⟩
   ·have:0<(ly E S Aa L).2.length:=Da.mpr d;obtain⟨n,g,b,m,l⟩:=i _ _ J aH;exact⟨n+1,g,.go c b,by exact E5 m _,l⟩
theorem BI.all{V a:Nat}{K:aZ}(I:BI E S V a K [])(x:Nat):x∈K↔Rch E S a x:=by
 refine⟨I.rc x,gR⟩
 induction h with
 |here=>exact I.st
 |step _ d c b=>exact I.cl _ b aB _ (mem_sc.mpr (fF c d))
#print "-"
section
variable{S:aZ}{p:bM}{out:cD}
noncomputable abbrev Gn:=d9
noncomputable def dI(G:Gn):dM W:=G.map λg=>(.inl (g.1:Int),HZ)
theorem QhP{q:Nat}:Wc A2 (vP q)=(G.find? (jQ g q)).map λg=>HZ:=by
 unfold Wc dI
 induction G with
 |nil=>rfl
 |cons g G a=>
  rw[ND,N9,N9]
  by_cases h:g.1=q
  ·simp[h]
  ·have:¬(Sum.inl (g.1:Int):Key)=MQ q:=λz=>h (by show qN z;lia);simp only[this,h,decide_false];exact a
noncomputable def hL(S:aZ)(G:Gn)(Ls:List (List Nat)):MH:=.dic Ck::.dic A2::Ls.map λl=>.lst zf0
theorem UW:(hL S G Ls).length=m9:=by simp[hL]
theorem Qjm:oJ++[cK]=hL S G oF:=by simp[hL]
theorem Qjq:(hL S G Ls).set (i+2) (.lst (l.map Z5++[Z5 q]))=hL S G (Ls.set i (l++[q])):=by
 simp[hL,List.map_set]
theorem QlQ(h:Ls[i]?=sO l):(hL S G Ls)[i+2]?=SS l:=by
 show(Ls.map λl=>MO.lst zf0)[i]?=_;rw[Nq,h];rfl
noncomputable abbrev rT(a b:W)(x4 x5 x6 x7 x8 x9 x10:bY):MSt:=[sO a,sO b,sO b',sO eP,x4,x5,x6,x7,x8,x9,x10]
theorem QdL(I:WB L G Ls)(e:hF)(v:G.length<=1000000)(H:L.length<=1000000){x5 x7 x8 x9 x10:bY} :
  ∃y n,WB (if e.1∈S then L else L++[(e.2,e.1)]) y n/\y.length<=G.length+1/\Xk zQ5 LE=sO (.nx zQ5 (hL S y n)):=by
 have D:∀q,(wa L q).length<sizeLine:=λq=>Np (Nn Qn8 H) aE;have B:∀G Ls,Wb LE eP=sO A2:=sT;have J:∀G Ls,Wb LE b'=sO Ck:=sT
 have ei:∀G Ls,YZ true Mk b' LE=sO (.bl (!decide (e.1∈S)),oJ):=λG Ls=>by
  unfold YZ;simp only[J,Wm,Nk,N7,Qjs,if_true]
 have m:∀G Ls (h:1<(hL S G Ls).length),(hL S G Ls)[1]=.dic A2:=za4
 by_cases c:e.1∈S
 ·refine⟨G,Ls,by rw[bH c];exact I,Ff _,?_⟩;simp[ei,c]
 rw[bQ c]
 rcases I.step (e.2,e.1)with⟨g,s,F,r,x,t⟩|⟨A,x⟩
 ·refine⟨G,_,x,Ff _,?_⟩
  have w:Ql1 eP [tZ e,.ref Ba] (hL S G oF)=sO (HZ,hL S G oF):=by
   show jp7;rw[QhP,Qjp I.nk s F];rfl
  have j:=QlQ (S:=S) (G:=G) t;have f:∀(h:g.2+2<(hL S G oF).length),(hL S G oF)[g.2+2]=.lst ((wa L e.1).map Z5):=λh=>(Nd.mp j).2;have d:=Qjq (S:=S) (G:=G) (Ls:=Ls++[[]]) (i:=g.2) (q:=e.2) (l:=wa L e.1);have o:g.2+2<(hL S G oF).length:=by rw[UW];simp;exact Ni r cJ
  show jt3;simp[ei,c,m,UW,Qjm,w,j,f,d,D,tyW,o]
 ·refine⟨_,_,x,aP,?_⟩;have E:(dI G).length<sizeLine:=Np (by simpa[dI]using v) aE
  have w:Ql1 eP [tZ e,.ref Ba] (hL S G oF)=sO (.ref Ba,hL S (G++xZ) oF):=by
   show jp7;rw[QhP,Qfi A];show zv8;rw[bH E]
   have:QaY A2 (.inl (e.1:Int)) (.ref Ba)=dI (G++xZ):=by
    unfold QaY;rw[if_neg]
    ·simp[dI]
    ·simp[dI];intro a b u z;exact A (NI.mpr ⟨_,u,by show a=e.1;lia⟩)
   show wW
  have j:=QlQ (S:=S) (G:=G++xZ) (Ls:=Ls++[[]]) (i:=Ls.length) (l:=[]) aB;have d:=Qjq (S:=S) (G:=G++xZ) (Ls:=Ls++[[]]) (i:=Ls.length) (q:=e.2) (l:=[]);simp only[E7,DZ]at d j;have C:0<sizeLine:=d5
  have f:∀(h:m9<(hL S (G++xZ) oF).length),(hL S (G++xZ) oF)[m9]=cK:=λh=>(Nd.mp j).2;have o:m9<(hL S (G++xZ) oF).length:=by rw[UW];simp
  show jt3;simp[ei,c,m,UW,Qjm,w,j,f,d,C,tyW,o]
#print "-"
section
variable{S:aZ}
noncomputable abbrev Fn:=Nat×Int×qJ
noncomputable def oW:qJ->W
 |none=>.non
 |dY n=>aC n
noncomputable def fd(FD:Ce):dM W:=FD.map λq=>(.inl (q.1:Int),.tup [.int q.2.1,oW q.2.2])
noncomputable abbrev ks(FD:Ce):aZ:=FD.map (·.1)
theorem Qfd{m:Nat}:(Wc kK (vP m)).isSome=decide (m∈ks FD):=by
 unfold Wc fd;rw[D4]
 by_cases c:m∈ks FD
 ·rw[m2 c,LZ];show i5 q d c;exact⟨_,EZ d,aP⟩
 ·rw[lY c,LM,L7,Io];intro x b;show i5 y a b;simp;intro z;exact c (NI.mpr ⟨y,a,aQ⟩)
theorem QnP(h:m∈ks FD):∃d o,Wc kK (vP m)=sO (.tup [aC d,oW o]):=by
 have:(Wc kK (vP m)).isSome=true:=by rw[Qfd];exact m2 h
 obtain⟨v,a⟩:=Ob.mp this;unfold Wc fd at a;show hV f e c a;have b:=List.mem_of_find?_eq_some e;show i5 q g b;exact⟨q.2.1,q.2.2,by unfold Wc fd;rw[a,<-c]⟩
theorem QmN(h:m∉ks FD):QaY kK (vP m) (.tup [aC d,oW o])=fd (FD++[(m,d,o)]):=by
 unfold QaY;rw[if_neg]
 ·simp[fd]
 ·show ja4;intro x b;show i5 y a b;intro z;simp at z;exact h (NI.mpr ⟨y,a,cC⟩)
def Ot(j f:Nat)(h h':MH):Prop:=h'.length=h.length/\∀i,i≠j->i≠f->h'[i]?=h[i]?
theorem Ot.refl(h:MH):Ot j f h h:=⟨rfl,za4⟩
theorem Ot.trans(h:Ot j f a b)(k:Ot j f b c):Ot j f a c:=⟨k.1.trans h.1,λi e d=>(k.2 i e d).trans (h.2 i e d)⟩
structure RH(j f:Nat)(FD:Ce)(X:aZ)(h:MH):Prop where
 hj:h[j]?=sO (.dic kK)
 hf:h[f]?=SS X
 ne:j≠f
 s1:FD.length<=1000
 s2:X.length<=1000
theorem QqK{j f n m:Nat}(H:RH j f FD X h)(A:n∈ks FD)(q:(up tE m).1.length<=1000)(e:(up tE m).2.length<=1000) :
  ∃l v h',Vt (rT a b (bL n) x5 (bL m) x7 (sO (aD j)) x9 (sO (aD f))) h=sO (.nx (rT a b (bL n) x5 (bL m) x7 (sO (aD j)) x9 (sO (aD f))) h')/\(ks l,v)=up tE m/\RH j f l v h'/\zd9:=by
 have u:Wb h (aD j)=sO kK:=by simp only[Wb,H.hj]
 have ei:YZ true (jF m) (aD j) h=sO (.bl (!decide (m∈ks FD)),h):=by
  unfold YZ;simp only[u,Wm,Nk,N7,Qfd,if_true]
 unfold up at q e ⊢
 by_cases c:m∈ks FD
 ·refine⟨FD,X,h,?_,by rw[bH c],H,wG⟩;simp[ei,c]
 rw[bQ c]at q e ⊢;obtain⟨d,o,y⟩:=QnP A
 have E:Qcl (aD j) (jF n) h=sO (.tup [aC d,oW o],h):=by
  unfold Qcl;simp only[u,Wm,Nk,y,N7]
 have z:=QmN (FD:=FD) (m:=m) (d:=d+1) (o:=sO n) c;have w:(fd FD).length<sizeLine:=Np (by unfold fd;rw[Ny];exact H.s1) aE;have t:(X.map Z5).length<sizeLine:=Np (by rw[Ny];exact H.s2) aE;have x:=(Nd.mp H.hj).1;have lf:=(Nd.mp H.hf).1
 have g:(h.set j PR)[f]?=SS X:=by
  rw[EJ H.ne];exact H.hf
 refine⟨FD++[(m,d+1,sO n)],X++[m],(h.set j PR).set f (.lst (X.map Z5++[aC m])),?_,aP,⟨?_,?_,H.ne,cN q,cN e⟩,⟨aP,aM i D C⟩⟩
 ·have F:(mFn Zs (Qc (Qn JE (Qn wIx (Qn Qcl j0 a') aY) aK) (Qc a' Ql))) (rT a b (bL n) x5 (bL m) x7 (sO (aD j)) x9 (sO (aD f))) h=sO (.tup [.int (d+1),oW (sO n)],h):=by
   simp[E,oW]
  have s:=QiT (mo:=Qg 8) (mi:=Qg 6) (σ:=rT a b (bL n) x5 (bL m) x7 (sO (aD j)) x9 (sO (aD f))) F (n:=j) (i:=aC m) aB aB rfl H.hj w;rw[z]at s;unfold Vt;generalize QaQ j0 dB (mFn Zs (Qc (Qn JE (Qn wIx (Qn Qcl j0 a') aY) aK) (Qc a' Ql)))=I at s ⊢;have p:X.length<sizeLine:=cN t
  have r:∀B:f<(h.set j PR).length,(h.set j PR)[f]=.lst (X.map Z5):=λB=>(Nd.mp g).2;simp[ei,c,s,g,t,p,tyW,lf,r]
 ·rw[EJ (EI H.ne),EX x]
 ·rw[EX (by simpa using lf)];simp[Z5]
 ·rw[EJ (EI C),EJ (EI D)]
#print "-"
section
variable{E:d9}{S:aZ}{V:Nat}
structure Bd(V:Nat)(q:KX):Prop where
 nd:q.1.Nodup
 lt:∀x∈q.1,x<V
 le:q.2.length<=q.1.length
theorem Bd.gr(B:Bd V q)(g:Gr P q d)(e:∀z,P z->z<V):Bd V d:=by
 obtain⟨Z,b,h,f⟩:=g.ex;refine⟨g.nd B.nd,bG x a,?_⟩
 ·rw[b]at a
  show iV a c
  ·exact B.lt x c
  ·exact e x (f x c)
 ·have:=B.le;rw[b,h,NK,NK];exact E5 this _
theorem Bd.len(B:Bd V q):q.1.length<=V/\q.2.length<=V:=by
 have:=KD V _ B.nd B.lt;have:=B.le;lia
structure LH(G:Gn)(Ls:List (List Nat))(h:MH):Prop where
 d:h[1]?=sO (.dic A2)
 l:∀i l,Ls[i]?=sO l->h[i+2]?=SS l
theorem LH.ot(H:wN h)(o:zd9)(a:m9<=j)(b:m9<=f):wN h':=by
 refine⟨by rw[o.2 1 (NB (Ni (Ni aE lC) a)) (NB (Ni (Ni aE lC) b))];exact H.d,aM i l e⟩;have:=bX e;rw[o.2 (i+2) (NB (Ni (E6 this _) a)) (NB (Ni (E6 this _) b))];exact H.l i l e
theorem LH.app(H:wN h)(o:MO):LH G Ls (h++[o]):=by
 have:=(Nd.mp H.d).1;refine⟨by rw[NJ this];exact H.d,aM i l e⟩;have z:=H.l i l e;rw[NJ (bX z)];exact z
theorem Qcx{ms:aZ}(h:ms[k]?=sO m):ups q (ms.take (k+1))=up (ups q zb8) m:=by
 unfold ups;rw[Dq,h,Di,FE];rfl
theorem Qkj{ns:aZ}(h:ns[k]?=sO n):ly E S q (ns.take (k+1))=ups (ly E S q (ns.take k)) Bx:=by
 unfold ly;rw[Dq,h,Di,FE];rfl
theorem Qp2{G:Gn}(I:zB8)(hE:∀e∈E,e.2<V)(P:V<=1000){h:MH}(H:RH j f FD X h)(LL:wN h)(hj:m9<=j)(hf:m9<=f)(B:Bd V tE)(D:n∈ks FD){x5 x6 x7 x9:bY} :
  ∃p i r h',VA (rT a b (bL n) x5 x6 x7 (sO (aD j)) x9 (sO (aD f))) h=sO (.nx (rT a b (bL n) x5 p x7 (sO (aD j)) x9 (sO (aD f))) h')/\(ks i,r)=ups tE Bx/\zr8:=by
 have R:Wb h eP=sO A2:=by simp only[Wb,LL.d]
 have l1:=(Nd.mp LL.d).1;have F:∀m∈C1,m<V:=λm x=>hE _ (mem_sc.mp x).1
 have key:∀(q:sV),(∀h',zd9->live q Sc h')->∃s h',JX Sc q A0 Vt Sc (rT a b (bL n) x5 x6 x7 (sO (aD j)) x9 (sO (aD f))) h=gP s h'/\∃p i r,s=rT a b (bL n) x5 p x7 (sO (aD j)) x9 (sO (aD f))/\(ks i,r)=ups tE Bx/\zr8:=by
  intro q hl
  obtain⟨s,h',e,p,i,r,v,y,e3,e4⟩:=Gj (items:=(sc E S n).map Z5) (src:=q) (b:=ZP 6) (body:=Vt) (λk A h'=>∃p i r,A=rT a b (bL n) x5 p x7 (sO (aD j)) x9 (sO (aD f))/\(ks i,r)=ups tE ((sc E S n).take k)/\zr8) (λk A h' ⟨_,_,_,_,_,_,o⟩=>hl h' o) Sc 0 (rT a b (bL n) x5 x6 x7 (sO (aD j)) x9 (sO (aD f))) h ⟨x6,FD,X,rfl,rfl,H,wG⟩ (by
   rintro k w hw A Q ⟨y6,F1,X1,rfl,v,H1,o1⟩
   show Cv m x;have gr:=(Qer ((sc E S n).take k) tE).1
   have C:n∈ks F1:=by
    have:=gr.sub D;rw[<-v]at this;exact this
   have L:=(Qer ((sc E S n).take (k+1)) tE).1;have N:=(B.gr L λz hz=>F z (Fb hz)).len;rw[Qcx x,<-v]at N;obtain⟨F2,X2,h2,Z,Y,U,T⟩:=QqK H1 C (m:=m) (Nn N.1 P) (Nn N.2 P) (a:=a) (b:=b) (x5:=x5) (x7:=x7) (x9:=x9)
   exact⟨_,rfl,_,h2,eH Z,eB m,F2,X2,rfl,by rw[Qcx x,Y,v],U,o1.trans T⟩)
  rw[NR,Ny,Dj]at y;exact⟨s,h',e,p,i,r,v,y,e3,e4⟩
 by_cases c:n∈G.map (·.1)
 ·obtain⟨g,J,O⟩:=NI.mp c;have t:=LL.l _ _ (I.at_ g J);rw[O]at t
  have M:G8 eP [aC n,cK] h=sO (HZ,h):=by
   unfold G8;simp only[R,Wm,Nk,N7];rw[QhP,Qjp I.nk J O];rfl
  have u:=(Nd.mp (I.at_ g J)).1
  obtain⟨s,h',e,p,i,r,rfl,y⟩:=key (sO (.l (g.2+2))) (λh' o n D=>by
   cases D;show h'[g.2+2]?=_
   rw[o.2 _ (NB (Ni (E6 u _) hj)) (NB (Ni (E6 u _) hf))];exact t)
  refine⟨p,i,r,h',?_,y⟩;refine Ko (items:=(sc E S n).map Z5) (src:=sO (.l (g.2+2))) (h1:=h) ?_ e
  have em:(mMt "dict" G8 aW (Qc a' (Qc sN Ql))) (rT a b (bL n) x5 x6 x7 (sO (aD j)) x9 (sO (aD f))) h=sO (HZ,h):=by
   simp[M,tyW,LL.d]
  unfold Zb;rw[em];show(K9 h (.ref (g.2+2))).map _=_;unfold K9;simp only[t,N7];rfl
 ·have hw:C1=[]:=Qfm I c
  have M:G8 eP [aC n,cK] h=sO (cK,h):=by
   unfold G8;simp only[R,Wm,Nk,N7];rw[QhP,Qfi c];rfl
  have em:(mMt "dict" G8 aW (Qc a' (Qc sN Ql))) (rT a b (bL n) x5 x6 x7 (sO (aD j)) x9 (sO (aD f))) h=sO (cK,h):=by
   simp[M,tyW,LL.d]
  refine⟨x6,FD,X,h,?_,by rw[hw];rfl,H,wG⟩;refine Ko (items:=[]) (src:=nO) (h1:=h) ?_ (by rw[JX,nZ]);unfold Zb;rw[em];rfl
#print "-"
section
variable{E:d9}{S:aZ}{V:Nat}
def LW(j:Nat)(lw:W)(L:aZ)(h:MH):Prop:=lw=.lst j9\/∃l,lw=aF l/\l≠j/\h[l]?=sO (.lst j9)
theorem LW.tru(H:LW j lw L h):QfL h lw=sO (!L.isEmpty):=by
 rcases H with rfl|⟨l,rfl,_,e⟩
 ·simp[QfL]
 ·simp[QfL,e]
theorem QqB(I:zB8)(Y:∀e∈E,e.2<V)(X:V<=1000)(U:h[j]?=sO (.dic kK))(LL:wN h)(p:m9<=j)(B:Bd V vM)(hL:LW j lw L h)(hs:∀x∈L,x∈ks FD) :
  ∃i g r c h',JT (rT a b x4 x5 x6 x7 (sO (aD j)) tN x10) h=sO (.nx (rT a b i x5 g x7 (sO (aD j)) (sO (qD h)) r) h')/\ks c=(ly E S vM L).1/\jv6/\wN h'/\LW j (qD h) (ly E S vM L).2 h'/\h.length<h'.length/\h'[0]?=h[0]?:=by
 have s:=bX U;have O:∀n m,m∈C1->m<V:=λn m hm=>Y _ (mem_sc.mp hm).1;generalize u:h.length=f at *;have H0:RH j f FD [] (h++[cK]):=⟨by rw[NJ (Ni s (cL u))];exact U,by rw[<-u];simp,by exact NB s,by have:=B.len;show iZ;exact Nn this X,NS _⟩
 have LL0:=LL.app (.lst [])
 have key:∀(d:sV),(∀h',Ot j f (h++[cK]) h'->live d j9 h')->∃q h',JX j9 d Cj VA j9 (rT a b x4 x5 x6 x7 (sO (aD j)) tN (sO (aD f))) (h++[cK])=gP q h'/\∃i g c t,q=rT a b i x5 g x7 (sO (aD j)) tN (sO (aD f))/\(ks c,t)=ly E S vM L/\RH j f c t h'/\Ot j f (h++[cK]) h':=by
  intro d Q
  obtain⟨q,h',e,i,g,c,t,D,C,J,A⟩:=Gj (items:=oP) (src:=d) (b:=ZP 4) (body:=VA) (λk F h'=>∃i g c t,F=rT a b i x5 g x7 (sO (aD j)) tN (sO (aD f))/\(ks c,t)=ly E S vM (L.take k)/\RH j f c t h'/\Ot j f (h++[cK]) h') (λk F h' ⟨_,_,_,_,_,_,_,o⟩=>Q h' o) j9 0 (rT a b x4 x5 x6 x7 (sO (aD j)) tN (sO (aD f))) (h++[cK]) ⟨x4,x6,FD,[],rfl,rfl,H0,wG⟩ (by
   rintro k w hw F h1 ⟨y4,y6,F1,X1,rfl,D,H1,R⟩
   show Cv n H;have gr:=(Qnj (E:=E) (S:=S) (L.take k) vM).1
   have N:n∈ks F1:=by
    have:=gr.sub (hs n (EK H));rw[<-D]at this;exact this
   have B1:=B.gr gr λz ⟨y,_,hz⟩=>O y z hz;rw[<-D]at B1;obtain⟨M,F2,X2,h2,t1,t2,t3,t4⟩:=Qp2 I Y X H1 (LL0.ot R p zI2) p zI2 B1 N (a:=a) (b:=b) (x5:=x5) (x6:=y6) (x7:=x7) (x9:=sO lw)
   exact⟨_,rfl,_,h2,eH t1,eB n,M,F2,X2,rfl,by rw[Qkj H,t2,D],t3,R.trans t4⟩)
  rw[NR,Ny,Dj]at C;exact⟨q,h',e,i,g,c,t,D,C,J,A⟩
 have fin:∀(d:sV),(∀h',Ot j f (h++[cK]) h'->live d j9 h')->K9 (h++[cK]) lw=sO (oP,d)->∃i g r c h',JT (rT a b x4 x5 x6 x7 (sO (aD j)) tN x10) h=sO (.nx (rT a b i x5 g x7 (sO (aD j)) (sO (aD f)) r) h')/\ks c=(ly E S vM L).1/\jv6/\wN h'/\LW j (aD f) (ly E S vM L).2 h'/\f<h'.length/\h'[0]?=h[0]?:=by
  intro d Q hi;obtain⟨q,h',e,i,g,c,t,rfl,C,J,A⟩:=key d Q
  have Z:=Ko (mi:=Zb e') (σ:=rT a b x4 x5 x6 x7 (sO (aD j)) tN (sO (aD f))) (h:=h++[cK]) (items:=oP) (src:=d) (h1:=h++[cK]) (by
   unfold Zb;have:(Qg 9) (rT a b x4 x5 x6 x7 (sO (aD j)) tN (sO (aD f))) (h++[cK])=sO (lw,h++[cK]):=rfl;rw[this,Nk];show(K9 (h++[cK]) lw).map _=_
   rw[hi];rfl) e
  refine⟨i,g,sO (aD f),c,h',?_,by rw[<-C],J.hj,LL0.ot A p zI2,.inr ⟨f,rfl,by exact EC s,by rw[<-C];exact J.hf⟩,by rw[A.1];simp;exact Np (cL u) oZ,by rw[A.2 0 (NB (Ni (Ni aE lC) p)) (NB (Np gX s)),NJ (Ni (Np gX s) (cL u))]⟩;unfold JT;generalize Ve (Zb e') Cj VA=fo at Z;simp[u,Z]
 rcases hL with rfl|⟨l,rfl,P,v⟩
 ·exact fin nO (λh' _=>Zt _ _) rfl
 ·have T:=bX v;have e0:(h++[cK])[l]?=sO (.lst j9):=by rw[NJ T];exact v
  refine fin (sO (.l l)) (λh' o n H=>?_) (by unfold K9;simp only[e0]);cases H;show h'[l]?=_;rw[o.2 l P (NB (Ni T (Nt u)))];exact e0
theorem Qm6(I:zB8)(y:∀e∈E,e.2<V)(Z:V<=1000){st n j:Nat}{K L v:aZ}(bf:Bf E S n K L v)(r:m9<=j):∀{h:MH} {FD:Ce} {lw:W} {x4 x6 x10:bY} {f:Nat},ks FD=K->h[j]?=sO (.dic kK)->wN h->BI E S V st K L->LW j lw L h->n<f ->
  ∃p o m d i h',Zd (Qae e') JT f (rT a b x4 x5 x6 x7 (sO (aD j)) tN x10) h=sO (.nx (rT a b p x5 o x7 (sO (aD j)) m d) h')/\ks i=v/\h'[j]?=sO (.dic (fd i))/\h'[0]?=h[0]?:=by
 induction bf with
 |fin K=>
  intro h FD lw x4 x6 x10 f u s LL B hL Y;obtain⟨g,rfl⟩:∃g,f=g+1:=⟨f-1,aQ⟩
  have t:=hL.tru;refine⟨x4,x6,sO lw,x10,FD,h,Yi ?_,u,s,rfl⟩;simp[t]
 | @go n K L v q _ X=>
  intro h FD lw x4 x6 x10 f u s LL B hL Y;obtain⟨g,rfl⟩:∃g,f=g+1:=⟨f-1,aQ⟩
  have t:=hL.tru;subst u;obtain⟨x,w,c,F',h',U,T,R,Q,P,t6,O⟩:=QqB I y Z s LL r ⟨B.nd,B.lt,NS _⟩ hL B.sub (a:=a) (b:=b) (x4:=x4) (x5:=x5) (x6:=x6) (x7:=x7) (x10:=x10);obtain⟨F,D,C,l,F2,z,N,M,J,H⟩:=X (x4:=x) (x6:=w) (x10:=c) (f:=g) T R Q (B.next y).1 P aH;refine⟨F,D,C,l,F2,z,?_,M,J,H.trans O⟩;rw[Kt (σ2:=rT a b x x5 w x7 (sO (aD j)) (sO (qD h)) c) (h2:=h') ?_ U]
  ·exact N
  ·have:L.isEmpty=false:=by cases L with|nil=>exact MM q|cons=>rfl
   simp[t,this]
#print "-"
theorem Qhe(u:pur a=true)(t:pur b=true)(l:h[n]?=sO o)(i:oI)(e:m [a,b,hJ] [o]=sO (.ref (j+1),o::g))(s:g[j]?=sO c)(f:Wo c=true):box frR m [a,b,aF n] h=sO (eX,h++[c]):=by
 have q:X5 0 [a,b,aF n]=sO ([a,b,hJ],[n]):=by
  cases a<;>cases b<;>simp_all[X5,pur]
 show zD4 q;rw[if_pos aB];have d:Ub h n=sO o:=by unfold Ub;rw[l];simp[i]
 simp only[Z8,d,Nk,N7,e];rw[zo3];have r:=(Nd.mp l)
 have p:h.set n o=h:=by rw[<-r.2];exact O6 _
 simp[frR,th,res,W4,Z8,Q0,s,OD,WG _ o i,WG _ c f,p]
section
variable{S:aZ}{p:bM}{out:cD}
theorem QkJ(A:jW)(d:n<=out.length):∀e∈C5 n,e.1<n/\e.2<out.length:=by
 intro e b;obtain⟨q,a,b⟩:=Fl.mp b;have a:=Ep.mp a;show i5 t c b;exact⟨a,Qgk (A.cl _ (UP (Ni a d)) t c)⟩
theorem Qkn:swE (E++[e]) S=if e.1∈S then swE E S else swE E S++[(e.2,e.1)]:=by
 unfold swE;rw[Fz,Ey]
 by_cases c:e.1∈S<;>simp[c]
theorem Qnd:pur (oW o)=true:=by cases o<;>rfl
theorem Qdd(A:jW)(X:uS)(hm:m<out.length):∃FD:Ce,(∀q:Nat,q∈ks FD↔Rch jv5 S m q)/\∀(h:MH) (n:Nat),h[n]?=sO TL->V2 [.lst ((Eg p out out.length).map gJ),.lst [aC m],aF n] h=sO (eX,h++[.dic kK]):=by
 have d:=QkJ A c8;have r:=Qi4 A (Nv out.length);generalize hE:Eg p out out.length=E at d r ⊢;have u:∀e∈E,e.2<out.length:=λe C=>(d e C).2;have b0:BI E S out.length m [m] [m]:=⟨aP,λx c=>by rw[gF c];exact hm,aP,λx c=>c,λx c hL=>absurd c hL,λx c=>by rw[gF c];exact .here⟩
 obtain⟨n0,K',bf,ai,bi⟩:=Qpg (S:=S) (V:=out.length) (a:=m) u (out.length+1) [m] [m] b0 (by simp;exact Np qX oZ)
 obtain⟨ae,h1,l1,I,H,F,D,G,Ls,rfl,rfl,B,lg⟩:=Va (items:=E.map gJ) (b:=ZQ [4,5,6,7]) (body:=Xk) (λk v h=>∃M z J y G Ls,v=rT (.lst (E.map gJ)) (.lst [aC m]) M z J y nO nO nO/\h=oJ/\WB (swE (E.take k) S) G Ls/\G.length<=k) (E.map gJ) 0 (rT (.lst (E.map gJ)) (.lst [aC m]) nO nO nO nO nO nO nO) (hL S [] []) ⟨nO,nO,nO,nO,[],[],rfl,rfl,⟨aP,aP,λ_ h=>(nomatch h),λ_ h=>by simp[swE]at h⟩,Nv _⟩ (by
  rintro k w hw v h ⟨M,z,J,y,G,Ls,rfl,rfl,B,lg⟩
  show Cv e C;have hk:=bX C
  have U:(swE (E.take k) S).length<=1000000:=by
   unfold swE;rw[Ny];refine Nn (Df _ _) ?_;rw[E3];lia
  obtain⟨G',aa,O,R,t⟩:=QdL (S:=S) B e aH U (a:=.lst (E.map gJ)) (b:=.lst [aC m]) (x5:=sO (lnW p sI)) (x7:=sO CZ) (x8:=nO) (x9:=nO) (x10:=nO);refine⟨_,rfl,_,_,eH t,sO Mk,sO (lnW p sI),sO Mj,sO CZ,G',aa,rfl,rfl,?_,by exact Nn R (E5 lg _)⟩;rw[Dq,C,Di,Qkn]
  exact O)
 rw[NR,Ny,Dj]at B
 have s:(oJ++Av)[m9]?=sO (.dic Ta):=by
  rw[<-UW (S:=S) (G:=G)];simp
 have LL:LH G Ls (oJ++Av):=LH.app ⟨rfl,λi l e=>QlQ e⟩ _;obtain⟨z4,z6,z9,af,FD,Y,Q,u2,P,u4⟩:=Qm6 B u (Nw (Np X aE)) bf (j:=m9) c8 (a:=.lst (E.map gJ)) (b:=.lst [aC m]) (x5:=H) (x7:=D) (h:=oJ++Av) (FD:=[(m,0,nO)]) (lw:=.lst [Z5 m]) (x4:=I) (x6:=F) (x10:=nO) (f:=20000000) rfl s LL b0 fA aH;refine⟨FD,λq=>by rw[u2];exact bi.all q,λh n hn=>?_⟩;have lj:m9<Y.length:=bX P
 have pk:Wo TL=true:=by
  unfold dK;simp[Wo];generalize S=L
  induction L with
  |nil=>rfl
  |cons q L T=>show kQ T
 have pf:Wo (.dic kK)=true:=by
  unfold fd;simp[Wo];generalize FD=L
  induction L with
  |nil=>rfl
  |cons q L T=>simp[Qnd];show kQ T
 obtain⟨g,hg⟩:∃g,Y=.dic Ck::g:=by
  cases Y with
  |nil=>simp at lj
  |cons o g=>show tL g;simp[hL]at u4;rw[u4]
 refine Qhe (j:=Ls.length+1) (g:=g) ?_ aB hn pk ?_ (by rw[hg]at P;exact P) pf
 ·simp
 ·have ed:∀h:MH,KM [.lst [.tup [aC m,.tup [kP,.non]]]] h=sO (eX,h++[.dic Ta]):=λh=>rfl
  have ek:Qao [.ref Ba] (oJ++Av)=sO (.lst [Z5 m],oJ++Av):=by
   have:Wb (oJ++Av) (.ref Ba)=sO Ta:=by simp only[Wb,s]
   unfold Qao;simp only[this];rfl
  have ec:Z4 V8 (Zb aL) [nO] iN YF (mFn Zs (Qc aG (Qc (mFn Zs (Qc aY (Qc fB Ql))) Ql))) (rT (.lst (E.map gJ)) (.lst [aC m]) I H F D nO nO nO) LE=sO (.lst [.tup [aC m,.tup [kP,.non]]],oJ):=by
   have:=XM (fin:=V8) (mi:=Zb aL) (cp:=[nO]) (me:=mFn Zs (Qc aG (Qc (mFn Zs (Qc aY (Qc fB Ql))) Ql))) (σ:=rT (.lst (E.map gJ)) (.lst [aC m]) I H F D nO nO nO) (caps:=[]) (h:=oJ) (items:=[aC m]) (λw=>.tup [w,.tup [kP,.non]]) rfl f9 (λw hw=>aP) aB;show wW
  have Z:=Ko (mi:=Zb aG) (σ:=rT (.lst (E.map gJ)) (.lst [aC m]) nO nO nO nO nO nO nO) (h:=hL S [] []) (items:=E.map gJ) (src:=nO) (h1:=hL S [] []) rfl l1;rw[hg]at Q;unfold KY;generalize Ve (Zb aG) (ZQ [4,5,6,7]) Xk=fo at Z ⊢;generalize Zd (Qae e') JT 20000000=wh at Q ⊢;generalize Z4 V8 (Zb aL) [nO] iN YF (mFn Zs (Qc aG (Qc (mFn Zs (Qc aY (Qc fB Ql))) Ql)))=co at ec ⊢;have e0:(hL S [] []:MH)=[.dic Ck,.dic []]:=rfl;rw[e0]at Z;have el:=UW (S:=S) (G:=G) (Ls:=Ls);simp[QM,Z,ec,ed,ek,el,Q]
#print "-"
noncomputable def ins(D:eQ)(q:Pl):eQ:=if q∈D then D else D++[q]
noncomputable def Ug(D l:eQ):eQ:=l.foldl ins D
theorem Ql3:x∈ins D q↔x∈D\/x=q:=by
 unfold ins
 show Co D
 ·rw[bH c];exact⟨.inl,λh=>h.elim id λe=>e▸c⟩
 ·rw[bQ c];simp
theorem QnJ(h:D.Nodup):(ins D q).Nodup:=by
 unfold ins
 show Co D
 ·rw[bH c];exact h
 ·rw[bQ c,Ew];exact⟨h,aP,λa e b d=>by rw[gF d];rintro rfl;exact c e⟩
theorem GJ:∀{l D:eQ} {x:Pl},x∈Ug D l↔x∈D\/x∈l:=by
 intro l
 induction l with
 |nil=>
  intro D x;simp[Ug]
 |cons q l a=>
  intro D x;show x∈Ug (ins D q) l↔_;rw[a,Ql3];simp[or_assoc]
theorem QfE:∀{l D:eQ},D.Nodup->(Ug D l).Nodup:=by
 intro l
 induction l with
 |nil=>
  intro _ h;exact h
 |cons q l a=>
  intro D h;exact a (QnJ h)
theorem Qcs:Ug D (l++m)=Ug (Ug D l) m:=by unfold Ug;rw[FE]
noncomputable def prD(D:eQ):kH:=D.map λq=>(ZT q,g7)
theorem Qmr:(Y7 r1 C2).isSome=decide (q∈D):=by
 have z:(Y7 r1 C2).isSome=true↔q∈D:=by
  rw[isSome_valQ];unfold prD;constructor
  ·rintro⟨x,b,e⟩
   show i5 y a b;simp only[Qdv]at e;rw[<-QeN (N2 e)];exact a
  ·intro h;exact⟨_,EZ h,Qdv⟩
 show Co D
 ·rw[z.mpr c,m2 c]
 ·rw[lY c,YaW];exact λy=>c (z.mp y)
theorem QmF:Qcg r1 C2 p0 vH=prD (ins D q):=by
 unfold Qcg ins;rw[Qmr]
 show Co D
 ·rw[if_pos (decide_eq_true c),bH c];unfold prD;rw[ED];refine F5 λx _=>?_;show zv8;split<;>rfl
 ·rw[if_neg (eC c),bQ c];simp[prD]
noncomputable def L55:eQ:=(List.range 11).flatMap λj=>(List.range j).map λi=>(i,j)
theorem Qlt{L:aZ}(A:L.Pairwise (·<·))(B:L.length<=11){D:eQ}(u:D.Nodup)(h:∀q∈D,q.1∈L/\q.2∈L/\q.1<q.2):zd5:=by
 have d:∀a∈L,L[L.idxOf a]?=sO a:=λa g=>by
  rw[Nj (EU g),DS]
 have f:∀q∈D,(L.idxOf q.1,L.idxOf q.2)∈L55:=λq j=>by
  obtain⟨s,r,p⟩:=h q j;have o:=EU r;have x:=EU s;unfold L55;rw[Fl];refine⟨L.idxOf q.2,Ep.mpr (Ni o B),NI.mpr ⟨L.idxOf q.1,Ep.mpr ?_,rfl⟩⟩
  rcases YaG (L.idxOf q.1) (L.idxOf q.2)with z|z
  ·exact z
  ·exfalso
   rcases Nat.eq_or_lt_of_le z with y|y
   ·have i:=d _ s
    have n:=d _ r
    rw[<-y,n]at i;have:=N2 i;exact FU (Nt this) p
   ·have:=D8.mp A _ _ o x y;rw[DS,DS]at this;exact FU (Nw this) p
 have key:=KD 55 (D.map λq=>L55.idxOf (CV q)) ?_ ?_
 ·rw[Ny]at key;exact Np key aE
 ·rw[List.Nodup,DE];refine Fk (λ{a b} g l ne e=>ne ?_) u;have w:=f a g;have v:=f b l;have i:L55[L55.idxOf (CV a)]?=sO (CV a):=by rw[Nj (EU w),DS]
  have n:L55[L55.idxOf (CV b)]?=sO (CV b):=by rw[Nj (EU v),DS]
  rw[e,n]at i;have m:=N2 i;have f1:=d _ (h a g).1
  have f2:=d _ (h b l).1
  have t:=d _ (h a g).2.1
  have E:=d _ (h b l).2.1
  rw[Prod.mk.injEq]at m;rw[<-m.1,f2]at f1;rw[<-m.2,E]at t;exact YaZ (N2 f1).symm (N2 t).symm
 ·intro c C;show i5 q j C;have:=EU (f q j);exact Ni this aE
open Sb
noncomputable def leQ(a b:Pl):Bool:=decide (a.1<b.1\/a.1=b.1/\a.2<=b.2)
noncomputable def ms(D:eQ):eQ:=D.mergeSort leQ
theorem ms_perm:(ms D).Perm D:=Ll _ _
theorem ms_pw:(ms D).Pairwise λa b=>leQ a b=true:=Ow (λa b c e d=>by simp[leQ]at *;lia) (λa b=>by simp[leQ];lia) D
noncomputable def cz(q:Pl):Int:=q.1*1000+q.2
theorem QsR(h:P1):ZT q=wz (cz q):=by
 unfold wz cz;rw[show((q.1:Int)*1000+q.2)/1000=q.1 by lia,show((q.1:Int)*1000+q.2)%1000=q.2 by lia];rfl
theorem QqH(g:zd5)(c:∀q∈D,P1):Qko Mh h=sO (eX,jp8):=by
 have e:∀{D:eQ},(∀q∈D,P1)->D.map ZT=(D.map cz).map wz:=λc=>by
  rw[ED];exact F5 λq d=>QsR (c q d)
 have f:∀q∈ms D,P1:=λq d=>c q (ms_perm.mem_iff.mp d);rw[e c,e f,Qj5 (by rw[Ny];exact g),Qca (ms_perm.map cz) (DE.mpr (ms_pw.imp_of_mem λ{a b} i c z=>?_))];have:=f a i;simp[leQ]at z;unfold cz;lia
theorem Qo8(a:h[n]?=sO (.dct r1))(b:zd5)(d:∀q∈D,P1):K8 [aF n] h=sO (eX,jp8):=by
 have hd:Qah h (aD n)=sO r1:=T9 a
 have c:(prD D).map (·.1)=D.map ZT:=by unfold prD;rw[ED];rfl
 unfold K8;simp only[hd,Nk,c];exact QqH b d
section
variable{N:Nat}{bs ws:aO}{p:bM}{out:cD}{M:iM}
noncomputable abbrev EE(p:bM)(out:cD):d9:=Eg p out out.length
noncomputable abbrev mk(p:bM)(out:cD)(q:Nat):zg7:=mdS p eU
noncomputable def QgZ(n o:Nat):Pl:=(min n o,max n o)
open Classical in
noncomputable def clE(p:bM)(out:cD)(M:iM)(e:hF):eQ:=match mk p out e.1 with
 |none=>[]
 |dY w=>((mkr p out).filter λo=>decide (o≠e.1/\Rch (EE p out) m5 e.2 o/\o∉Bs)).map (QgZ e.1)
noncomputable def CL(p:bM)(out:cD)(M:iM):eQ:=zX7
open Classical in
theorem mem_CL:q∈Mt↔∃e∈EE p out,∃w,mk p out e.1=sO w/\∃o∈mI,o≠e.1/\Rch (EE p out) m5 e.2 o/\o∉Bs/\q=QgZ e.1 o:=by
 unfold CL;rw[GJ,Fl];simp only[Ek,false_or];constructor
 ·rintro⟨e,d,b⟩
  unfold clE at b;split at b
  ·cases b
  ·rename_i w hw;show i5 o c b;obtain⟨f,a⟩:=DT.mp c;have a:=of_decide_eq_true a;exact⟨e,d,w,hw,o,f,a.1,a.2.1,a.2.2,rfl⟩
 ·rintro⟨e,d,w,hw,o,c,f,a,g,rfl⟩
  show r4 e d;unfold clE;rw[hw];exact NI.mpr ⟨o,DT.mpr ⟨c,decide_eq_true ⟨f,a,g⟩⟩,rfl⟩
theorem mkr_mem:q∈mI↔za5/\(mk p out q).isSome=true:=by
 unfold mkr;rw[DT,Ep]
theorem Qmc:(mkr p out).Pairwise (·<·):=IH.filter _
noncomputable abbrev cS(a b c d:W)(x5 x6 x7 x8 x9 x10 x11:bY):MSt:=[sO a,sO b,sO c,sO d,sO b',x5,x6,x7,x8,x9,x10,x11]
theorem QhO{R:MH}{s u n o:Nat}(q:R[s]?=sO TL)(m:R[u]?=sO (.dic kK))(t:D.length<=1000) :
  VG (cS a b c d (bL n) x6 x7 x8 (n6 s) (n6 u) (bL o)) pI=sO (.nx (cS a b c d (bL n) x6 x7 x8 (n6 s) (n6 u) (bL o)) (.dct (prD (if o≠n/\T5 then ins D (QgZ n o)else D))::R)):=by
 have g:YZ false (jF o) (.ref (u+1)) pI=sO (.bl (decide (o∈ks FD)),.dct r1::R):=by
  have:Wb pI (.ref (u+1))=sO kK:=by simp only[Wb,Dm,m]
  unfold YZ;simp only[this,Wm,Nk,N7,Qfd,Er,if_false]
 have f:YZ true (jF o) zL7 pI=sO (.bl (!decide (o∈S)),.dct r1::R):=by
  have:Wb pI zL7=sO Ck:=by simp only[Wb,Dm,q]
  unfold YZ;simp only[this,Wm,Nk,N7,Qjs,if_true]
 show AW j o n
 by_cases h:o∈ks FD
 ·by_cases i:o∈S
  ·have:¬(o:Int)=n:=aQ
   simp[g,f,h,i,this]
  ·have z:¬(o:Int)=n:=cC
   have l:(prD D).length<sizeLine:=Np (by unfold prD;rw[Ny];exact t) aE;have r:ji9=((min n o:Nat):Int):=by split<;>lia
   have eq:KJ b' (ZT (QgZ n o)) vH pI=ja5:=by
    unfold KJ;simp only[Qdv,Nk,List.getElem?_cons_zero];rw[bH l,QmF];rfl
   have e:KJ b' (.tup [.int ji9,.int jl3]) vH pI=ja5:=by
    rw[<-eq];unfold ZT QgZ;rw[r,show jl3=((max n o:Nat):Int) by split<;>lia]
   simp[g,f,j,h,i,z,e]
 ·have z:¬(o:Int)=n:=cC
  simp[g,f,h,z]
#print "-"
section
variable{N:Nat}{bs ws:aO}{p:bM}{out:cD}{M:iM}
noncomputable def clP(n:Nat)(FD:Ce)(S ms:aZ):eQ:=(ms.filter λo=>decide (o≠n/\T5)).map (QgZ n)
theorem Qix:(Ug D l).length<=D.length+l.length:=by
 induction l generalizing D with
 |nil=>exact Nv _
 |cons q l a=>
  have c:=a (D:=ins D q);have b:(ins D q).length<=D.length+1:=by unfold ins;split<;>simp
  show(Ug (ins D q) l).length<=_;rw[NQ];lia
theorem Qk1{S ms:aZ}:(clP n FD S ms).length<=ms.length:=by
 unfold clP;rw[Ny];exact Df _ _
theorem Qkz{R:MH}{s u n:Nat}{ms:aZ}(r:R[s]?=sO TL)(q:R[u]?=sO (.dic kK))(A:D.length+ms.length<=1000){a b c:W}{x6 x7 x8 x11:bY} :
  ∃y,Ve (Zb aW) (ZP 11) VG (cS a b c Sq (bL n) x6 x7 x8 (n6 s) (n6 u) x11) pI=sO (.nx (cS a b c Sq (bL n) x6 x7 x8 (n6 s) (n6 u) y) (.dct (prD (Ug D (clP n FD S ms)))::R)):=by
 obtain⟨i,C,e,y,rfl,rfl⟩:=Va (items:=ms.map Z5) (b:=ZP 11) (body:=VG) (λk f h=>∃y,f=cS a b c Sq (bL n) x6 x7 x8 (n6 s) (n6 u) y/\h=.dct (prD (Ug D (clP n FD S zb8)))::R) (ms.map Z5) 0 (cS a b c Sq (bL n) x6 x7 x8 (n6 s) (n6 u) x11) pI ⟨x11,rfl,rfl⟩ (by
  rintro k w hw f h ⟨y,rfl,rfl⟩
  show Cv o g;have B:=bX g
  have m:(Ug D (clP n FD S zb8)).length<=1000:=by
   have x:=Qix (D:=D) (l:=clP n FD S zb8);have v:=Qk1 (n:=n) (FD:=FD) (S:=S) (ms:=ms.take k);rw[E3]at v;lia
  have t:=QhO (o:=o) (n:=n) r q m (a:=a) (b:=b) (c:=c) (d:=.lst (ms.map Z5)) (x6:=x6) (x7:=x7) (x8:=x8);refine⟨_,rfl,_,_,eH t,eB o,rfl,?_⟩;congr 3;rw[Dq,g,Di];unfold clP;rw[Fz,Ey,Qcs]
  by_cases z:o≠n/\T5
  ·rw[bH z];simp[z.1,z.2.1,z.2.2,Ug]
  ·rw[bQ z];rw[show[o].filter (λo=>decide (o≠n/\T5))=[] by rw[Oz (by rw[decide_eq_true_eq];exact z)];rfl]
   rfl)
 show tL y;rw[NR,Ny,Dj]at e;exact Ko (items:=ms.map Z5) (src:=nO) (h1:=.dct r1::R) rfl e
#print "-"
section
variable{N:Nat}{bs ws:aO}{p:bM}{out:cD}{M:iM}
theorem Qio(B:gC)(A:jW)(d:uS)(E:yC)(C:e∈EE p out)(L:D.length<=900) :
  ∃r i g R',VD (cS wR hU (.lst ((EE p out).map gJ)) CF (sO Mk) (sO (lnW p sI)) (sO Mj) (sO CZ) x9 x10 x11) pI =
   sO (.nx (cS wR hU (.lst ((EE p out).map gJ)) CF (sO Mk) (sO (lnW p sI)) (sO Mj) (sO CZ) r i g) (.dct (prD (Ug D (clE p out M e)))::R')):=by
 obtain⟨x,t⟩:=QkJ A c8 e C;have z:=zL6 x;have em:∀h,Q4 [lnW p sI] h=sO (Qaf (mdS p sI),h):=λh=>YQ B z;cases hw:mdS p sI with
 |none=>
  refine⟨x9,x10,x11,R,?_⟩;have m:clE p out M e=[]:=by unfold clE mk;rw[hw]
  rw[hw]at em;have en:Qaf nO=.non:=rfl;rw[m];simp[em,en,Ug]
 | some w=>
  rw[hw]at em;have en:Qaf tV=c4 w:=rfl;rw[en]at em;have q:=λh=>Qee A d E (w:=w) h;obtain⟨FD,l,F⟩:=Qdd (S:=Bs) A d t;have f:=F (.dct r1::(R++[.dic (dK m5)])) (C4 R) aB
  have J:mX<=50:=by
   unfold mkr;refine Nn (Df _ _) ?_;rw[D3];exact d
  obtain⟨y,j⟩:=Qkz (D:=D) (R:=R++[.dic (dK m5),.dic kK]) (s:=R.length) (u:=zf4) (n:=e.1) (S:=Bs) (FD:=FD) (ms:=mI) aB aB aH (a:=Zx p) (b:=n5 M) (c:=.lst ((EE p out).map gJ)) (x6:=sO (lnW p sI)) (x7:=sO Mj) (x8:=sO CZ) (x11:=x11)
  have m:clE p out M e=clP e.1 FD m5 h8:=by
   unfold clE mk clP;rw[hw];simp only;congr 1;apply List.filter_congr;intro o _;rw[decide_eq_decide,l]
  refine⟨sO (.ref (C4 R)),sO (.ref (R.length+2)),y,R++[.dic (dK m5),.dic kK],?_⟩;rw[m];unfold VD;generalize Ve (Zb aW) (ZP 11) VG=O at j ⊢;simp at q f j;simp[em,q,f,j]
theorem Qol(A:jW)(c:q∈Mt):q.1∈mI/\q.2∈mI/\q.1<q.2:=by
 obtain⟨e,d,w,hw,o,a,f,_,_,rfl⟩:=mem_CL.mp c;have b:e.1∈mI:=mkr_mem.mpr ⟨(QkJ A c8 e d).1,by rw[hw];rfl⟩;unfold QgZ;refine⟨?_,?_,by show min _ _<max _ _;lia⟩
 ·show min _ _∈_
  rcases Nat.le_total e.1 o with z|z
  ·rw[Nat.min_eq_left z];exact b
  ·rw[Ya7 z];exact a
 ·show max _ _∈_
  rcases Nat.le_total e.1 o with z|z
  ·rw[Nat.max_eq_right z];exact a
  ·rw[Nat.max_eq_left z];exact b
theorem Qm7(a:mX<=11)(A:jW){D:eQ}(b:D.Nodup)(c:∀q∈D,q∈Mt):zd5:=Qlt Qmc a b λq d=>Qol A (c q d)
theorem Qqv(a:uS)(h:n∈mI):n<1000:=Ni (mkr_mem.mp h).1 (Nn a aE)
theorem Yv(E:gC)(i:mX<=11)(A:jW)(l:uS)(S:yC)(h:MH):ZL [Zx p,n5 M] h=sO (.lst ((ms gY).map ZT),h):=by
 have Q:(CL p out M).length<64:=Qm7 i A (QfE Ez) λ_ h=>h;have T:=λh=>Qg1 A h;have U:=λh=>QaP E A h
 obtain⟨H,h',C,B,x,v,u,f,c,a,R,rfl,rfl⟩:=Va (items:=(EE p out).map gJ) (b:=ZQ [5,6,7,8]) (body:=VD) (λk d h=>∃B x v u f c a R,d=cS wR hU (.lst ((EE p out).map gJ)) CF B x v u f c a/\h=.dct (prD (Ug [] zn2))::R) ((EE p out).map gJ) 0 (cS wR hU (.lst ((EE p out).map gJ)) CF nO nO nO nO nO nO nO) [oV] ⟨nO,nO,nO,nO,nO,nO,nO,[],rfl,rfl⟩ (by
  rintro k w hw d h ⟨B,x,v,u,f,c,a,R,rfl,rfl⟩
  show Cv e F
  have P:(Ug [] zn2).length<64:=Qm7 i A (QfE Ez) λq m=>by
   rw[GJ,Fl]at m;unfold CL;rw[GJ,Fl]
   rcases m with z|⟨y,O,z⟩
   ·cases z
   ·exact .inr ⟨y,Fb O,z⟩
  obtain⟨I,s,r,Y,t⟩:=Qio E A l S (D:=Ug [] zn2) (R:=R) (e:=e) (EK F) (Nw (NT P aE)) (x9:=f) (x10:=c) (x11:=a);refine⟨_,rfl,_,_,eH t,_,_,_,_,I,s,r,Y,rfl,?_⟩;rw[Dq,F,Di,List.flatMap_append,Qcs]
  simp)
 rw[NR,Ny,Dj]at C;have o:=Ko (mi:=Zb aR) (σ:=cS wR hU (.lst ((EE p out).map gJ)) CF nO nO nO nO nO nO nO) (h:=[oV]) (items:=(EE p out).map gJ) (src:=nO) (h1:=[oV]) rfl C;have G:=Qo8 (D:=Mt) (h:=.dct (prD gY)::R) (n:=0) rfl Q λq m=>Qqv l (Qol A m).2.1;refine Ga (j:=zf4) (g:=(.dct (prD gY)::R)++[.lst ((ms gY).map ZT)]) (by simp[VJ,ZT]) ?_ aB aB;unfold K2;generalize Ve (Zb aR) (ZQ [5,6,7,8]) VD=fo at o ⊢;have X:zX7=Mt:=rfl;rw[X]at o;have L:∀(d:MSt) (h:MH),QfU d h=sO (eX,h++[oV]):=sT;simp at o G;simp[QM,T,U,o,G,L]
#print "-"
inductive Te where
 |cl (a b:Int)
 |pu (n:Int) (ts:mL)
mutual
noncomputable def Q1:Te->W
 |.cl a b=>.tup [yT,aC a,aC b]
 |.pu n ts=>.tup [Mu,aC n,.tup (QaZ ts)]
noncomputable def QaZ:mL->aI
 |[]=>[]
 |t::ts=>Q1 t::QaZ ts
end
mutual
noncomputable def dpE:Te->Nat
 |.cl _ _=>1
 |.pu _ ts=>Qok ts+1
noncomputable def Qok:mL->Nat
 |[]=>0
 |t::ts=>max (dpE t) (Qok ts)
end
theorem Qav(ts:mL):QaZ ts=ts.map Q1:=by
 induction ts with
 |nil=>rw[QaZ];rfl
 |cons t ts a=>rw[QaZ,a];rfl
theorem enc_cl:Q1 (.cl a b)=.tup [yT,aC a,aC b]:=by rw[Q1]
theorem Vw:Q1 Ml=.tup [Mu,aC n,.tup L']:=by rw[Q1,Qav]
theorem Qj1{ts:mL}:Qok ts<=d↔∀t∈ts,zS:=by
 induction ts with
 |nil=>rw[Qok];simp
 |cons t ts a=>rw[Qok,Nat.max_le,a];simp
theorem dp_pu:dpE Ml<=d+1↔∀t∈ts,zS:=by
 rw[dpE,Nat.add_le_add_iff_right,Qj1]
theorem Qfo(t:Te):1<=dpE t:=by
 cases t with
 |cl a b=>rw[dpE];exact Nv _
 |pu n c=>rw[dpE];exact Eu _ _
inductive Sm:Te->Prop
 |cl:Sm (.cl a b)
 |pu:Tm->(∀t∈ts,Sm t)->Sm Ml
def OkE(d:Nat)(t:Te):Prop:=zS/\Sm t
theorem Qa9(h:1<=d):OkE d (.cl a b):=⟨by rw[dpE];exact h,.cl⟩
theorem QmP(b:Tm)(h:∀t∈ts,OkE d t):OkE (d+1) Ml:=⟨dp_pu.mpr λt a=>(h t a).1,.pu b λt a=>(h t a).2⟩
theorem OkE.le(h:OkE d t)(hd:d<=e):OkE e t:=⟨Nn h.1 hd,h.2⟩
theorem OkE.sub{ts:mL}(h:OkE (d+1) Ml):Tm/\∀t∈ts,OkE d t:=by
 show lO f e h;cases e with
 |pu a b=>exact⟨a,λt c=>⟨dp_pu.mp f t c,b t c⟩⟩
noncomputable abbrev tkW(ts:dO):W:=.tup (ts.map .int)
noncomputable def opN(ts:dO)(m:Nat):Nat:=min ((Sb.uq ts).length+1) m
theorem UG:opN ts m<=m:=DJ _ _
theorem Qgx(c:ts.length<4000)(h:MH):QU [tkW ts,jR] h=sO (.int (opN ts m:Nat),h):=by
 refine QH (g:=[]) aB ?_ aB
 have e:∀h,XW [tkW ts] h=sO (.int ((Sb.uq ts).length:Nat),h):=λh=>by
  unfold XW sqW;simp[c]
 have d:∀(a b:Nat) h,QdU [WP a,aC b] h=ji3:=λa b h=>by
  simp[QdU];split<;>(congr 3;omega)
 simp[Xp,QM,e,d,opN]
noncomputable abbrev lsN(L:aZ):W:=.lst j9
noncomputable abbrev lsQ(C:eQ):W:=.lst (C.map ZT)
noncomputable abbrev cpW(a b:Int):W:=.tup [aC a,aC b]
theorem Qmt{L:aZ}:YK j9=true:=QcC λw hw=>by show rQ q;rfl
theorem QnZ{L:aZ}:Qaz j9<=40:=Wp λw hw=>by show rQ q;simp[Z5,dep]
theorem Qp8{C:eQ}:Qaz (C.map ZT)<=40:=Wp λw hw=>by show rQ q;exact Nn Qij aE
noncomputable def inC(C:eQ)(a b:Int):Bool:=inW (cpW a b) (C.map ZT)
noncomputable def inN(L:aZ)(n:Int):Bool:=inW (jF n) j9
theorem Qqp{neg:Bool}{h:MH}:wIn neg (cpW a b) (lsQ C) h=sO (.bl (if neg then ! MR else MR),h):=by
 have:=Qkd (neg:=neg) (a:=cpW a b) (ys:=C.map ZT) (h:=h) rfl Qjn (by simp[dep,Qaz]) Qp8;rw[this];cases neg<;>rfl
theorem QqS{neg:Bool}{h:MH}:wIn neg (jF n) (lsN L) h=sO (.bl (if neg then !inN L n else inN L n),h):=by
 have:=Qkd (neg:=neg) (a:=aC n) (ys:=oP) (h:=h) rfl Qmt To QnZ;rw[this];cases neg<;>rfl
theorem KA{ms:MA}{σ:MSt}{h h':MH}{j:Int}(e:ms σ h=sO ([aC j],h'))(h0:-1000000<j)(a:j<1000000):YG ms σ h=sO (QL 0 j.toNat,nO,h'):=by
 unfold YG;rw[e,Nk];exact if_pos ⟨cC,cC⟩
noncomputable def cpO:Option (Int×Int)->W
 |none=>.non
 |dY q=>cpW q.1 q.2
theorem atN{L:aZ}{k:Nat}(a:k<L.length):atI j9 d6=sO (.int (L[k]:Nat)):=by
 rw[Q6,Nq,Nj a];rfl
theorem QjW{L:aZ}{C:eQ}{ts:dO}(i:ts.length<=L.length)(hL:L.length<=1000):∃o:Option (Int×Int),∀h:MH,Z0 [lsN L,lsQ C,tkW ts] h=sO (cpO o,h):=by
 by_cases B:ts=[]
 ·subst B;refine⟨nO,λh=>QH (g:=[]) aB ?_ zG1⟩
  have J:Ve (YG (Qc (Qn Qag (mFn JB (Qc aR Ql)) aK) Ql)) (ZP 3) Zr [qM,vN,sO (tkW []),nO,nO] []=sO (.nx [qM,vN,sO (tkW []),nO,nO] []):=by
   refine Ko (items:=QL 0 0) (src:=nO) (KA (j:=-1) (h':=[]) aB aE aE) ?_;exact Wg
  unfold JL;simp[QM,J,cpO]
 ·obtain⟨d,u,rfl⟩:∃d u,ts=d++[u]:=⟨ts.dropLast,ts.getLast B,M7⟩
  rw[NK,Ei]at i;have f:atI j9 (d.length:Int)=sO (.int xV):=atN i;have A:atI (d.map W.int++[aC u]) (-1)=eB u:=Mi.QcT _ _
  have H:=Wh (items:=zi0 d) (b:=ZP 3) (body:=Zr) (λ_ n h=>∃r p,n=[qM,vN,zB9,r,p]/\h=[]) (λv h=>∃q,v=cpO (sO q)/\h=[]) (QL 0 d.length) 0 zm7 [] ⟨_,_,rfl,rfl⟩ (by
   rintro j w D n h ⟨r,p,rfl,rfl⟩
   have l:=bX D;rw[Zh]at l;obtain rfl:w=.int fK:=ST D
   refine Bb;have x:atI j9 fK=sO (.int (L[j]' bR:Nat)):=atN bR
   have t:atI (d.map W.int++[aC u]) fK=sO (.int d[j]):=by
    rw[Q6,NJ (bZ l),Nq,Nj l];rfl
   have E:=λh=>Qqp (neg:=false) (C:=C) (a:=(L[j]' bR:Nat)) (b:=xV) (h:=h)
   by_cases c:d[j]=u/\inC C (L[j]' bR:Nat) xV=true
   ·right;refine⟨_,[],?_,((L[j]' bR:Nat),xV),rfl,rfl⟩;simp[x,t,f,A,E,c.1,c.2,cpO]
   ·left;refine⟨[qM,vN,zB9,eB j,sO (cpW (L[j]' bR:Nat) xV)],[],?_,_,_,rfl,rfl⟩
    by_cases y:d[j]=u
    ·have M:inC C (L[j]' bR:Nat) xV=false:=by
      cases z:inC C (L[j]' bR:Nat) xV with
      |true=>exact absurd (fF y z) c
      |false=>rfl
     simp[x,t,f,A,E,y,M]
    ·simp[x,t,f,A,y])
  have ei:YG (Qc (Qn Qag (mFn JB (Qc aR Ql)) aK) Ql) zm7 []=sO (zi0 d,nO,[]):=by
   have:=KA (ms:=Qc (Qn Qag (mFn JB (Qc aR Ql)) aK) Ql) (σ:=zm7) (h:=[]) (h':=[]) (j:=d.length) aB bR bR;show Hd
  rcases H with⟨F,s,e,r,p,rfl,rfl⟩|⟨v,s,e,q,rfl,rfl⟩
  ·refine⟨nO,λh=>QH (g:=[]) aB ?_ zG1⟩;show zN2
  ·refine⟨sO q,λh=>QH (g:=[]) aB ?_ zG1⟩;show zN2
mutual
theorem WC:∀t:Te,pur (Q1 t)=true
 |.cl a b=>by rw[enc_cl];rfl
 |.pu n ts=>by rw[Q1];simp[pur,JC,Qex ts]
theorem Qex:∀ts:mL,JC (QaZ ts)=true
 |[]=>by rw[QaZ];rfl
 |t::ts=>by rw[QaZ];simp[JC,WC t,Qex ts]
end
theorem QiI(ts:mL):JC L'=true:=by rw[<-Qav];exact Qex ts
noncomputable def Qce:dO ⊕ Te->W
 |.inl us=>.tup [tkW us,.non]
 |k6 t=>.tup [.non,Q1 t]
theorem Gq(o:dO ⊕ Te):pur (Qce o)=true:=by
 cases o with
 |inl a=>simp[Qce,pur,JC]
 |inr t=>simp[Qce,pur,JC,WC]
noncomputable abbrev cS9(L:aZ)(C:eQ)(m:Nat)(ts:dO)(x4 x5 x6 x7:bY):MSt:=[qM,vN,sO l0,sO (tkW ts),x4,x5,x6,x7]
theorem Qg4 {L:aZ} {C:eQ} {m:Nat} (hL:zd8) (U:wH) (f:Nat):∀ts:dO,ts.length<=L.length->L.length-ts.length<f ->
  ∃o:dO ⊕ Te,(∀t,o=k6 t->OkE (L.length-ts.length+1) t)/\∀h:MH,J0 f [lsN L,lsQ C,jR,tkW ts] h=sO (Qce o,h):=by
 induction f with
 |zero=>intro ts _ h;exact pX h
 | succ f N=>
  intro ts x X;obtain⟨q,eq⟩:=QjW (C:=C) x (Nn hL aE);have i:ts.length+1<=sizeLine:=Nn (cC:ts.length+1<=9) aE;cases q with
  | some q=>
   refine⟨.inr (.cl q.1 q.2),bG t e,λh=>QH (g:=[]) aB ?_ (Gq _)⟩
   ·cases e;exact Qa9 lC
   ·have e:=eq [];simp[cpO]at e;have I:3<=sizeLine:=d5
    simp[Xx,QM,e,Qce,enc_cl,I]
  | none=>
   by_cases c:ts.length=L.length
   ·refine⟨.inl ts,zG2 e,λh=>QH (g:=[]) aB ?_ (Gq _)⟩;have e:=eq [];simp[cpO]at e;simp[Xx,QM,e,Qce,c]
   ·have a:ts.length<L.length:=Nat.lt_of_le_of_ne x c;have G:¬(ts.length:Int)=L.length:=cC
    have R:=Qgx (ts:=ts) (m:=m) (Np (Nn x hL) aE)
    have M:=Wh (items:=QL 0 (opN ts m)) (b:=ZP 6) (body:=V1 (J0 f)) (λk r h=>∃(u s:bY) (bs:mL),r=cS9 L C m ts MB (sO b') u s/\h=[yD]/\bs.length=k/\∀t∈bs,OkE (L.length-ts.length) t)
     (λv h=>∃(d:dO) (bs:mL),v=Qce (iQ d)/\h=[yD]) (QL 0 (opN ts m)) 0 (cS9 L C m ts MB (sO b') nO nO) [cK] ⟨nO,nO,[],rfl,rfl,rfl,aP⟩ (by
     rintro j w E r h ⟨u,s,bs,rfl,rfl,p,hd⟩
     have y:=bX E;rw[Zh]at y;obtain rfl:w=.int fK:=ST E
     refine Bb;obtain⟨o,P,B⟩:=N (ts++[fK]) kZ kZ;have l:bs.length<sizeLine:=Ni (by show RY:bs.length<1001) aE;simp only[tkW,Ey,ND,E7]at B;cases o with
     |inl d=>
      refine .inr ⟨Qce (iQ d),_,?_,d,bs,rfl,rfl⟩;simp[B,i,Qce]
     | inr t=>
      refine .inl ⟨cS9 L C m ts MB (sO b') (bL j) (sO (Qce (.inr t))),[jv7],?_,_,_,bs++[t],rfl,rfl,hY p,bG J O⟩
      ·simp[B,i,Qce,tyW,l]
      ·show iV O z
       ·exact hd J z
       ·rw[gF z]
        exact(P t rfl).le kZ)
    have ei:YG (Qc (Qv 2 QU (Qc aW (Qc aR Ql))) Ql) (cS9 L C m ts MB (sO b') nO nO) [cK]=sO (QL 0 (opN ts m),nO,[cK]):=by
     have T:=R [cK];have:=KA (ms:=Qc (Qv 2 QU (Qc aW (Qc aR Ql))) Ql) (σ:=cS9 L C m ts MB (sO b') nO nO) (h:=[cK]) (h':=[cK]) (j:=(opN ts m:Nat)) (eC T) bR (by show RY);show Hd
    have e:=eq [];simp only[cpO]at e;have S:atI j9 (ts.length:Int)=sO (.int (L[ts.length]'a:Nat)):=atN a
    rcases M with⟨H,F,D,u,s,bs,rfl,rfl,p,hd⟩|⟨v,F,D,d,bs,rfl,rfl⟩
    ·have n:=jb8;have l:bs.length<=sizeLine:=Nn (by rw[Zh]at p;show RY:bs.length<=1001) aE;refine⟨.inr (.pu (L[ts.length]'a:Nat) bs),bG t A,λh=>QH (g:=[yD]) aB ?_ (Gq _)⟩
     ·cases A;exact QmP (by rw[Zh]at p;show RY) hd
     ·show ja6;simp[QM,e,G,n,S,Qce,Vw]
    ·have n:=jb8;refine⟨eH d,zG2 A,λh=>QH (g:=[yD]) aB ?_ (Gq _)⟩;show ja6;simp[QM,e,G,n]
noncomputable abbrev Rm:=List (Int×Int)
noncomputable def dR(R:Rm):dM W:=R.map λq=>(.inl q.1,tJ)
noncomputable def lR(R:Rm):aI:=R.map λq=>cpW q.1 q.2
noncomputable def lk(R:Rm)(a:Int):dS:=(R.find? (jQ q a)).map (·.2)
theorem Qf8{R:Rm}{a:Int}:Wc tW (iQ a)=(lk R a).map .int:=by
 unfold Wc dR lk
 induction R with
 |nil=>rfl
 |cons q R b=>
  rw[ND,N9,N9]
  by_cases c:q.1=a
  ·simp[c]
  ·simp[c];show kQ b
theorem QmS{R:Rm}:(dR R).map (·.2)=(R.map (·.2)).map W.int:=by unfold dR;rw[ED,ED];rfl
theorem lk_none{R:Rm}{a:Int}:lk R a=nO↔a∉R.map (·.1):=by
 unfold lk;rw[Option.map_eq_none_iff,Io,NI];constructor
 ·rintro h ⟨q,b,e⟩;exact h q b (decide_eq_true e)
 ·rintro h q b e;exact h ⟨q,b,of_decide_eq_true e⟩
theorem Qmq{R:Rm}{n i:Int}(h:lk R n=nO):QaY tW (iQ n) cT=dR (R++[(n,i)]):=by
 unfold QaY
 have:((dR R).any λb=>decide (b.1=wI n))=false:=by
  rw[YaR];intro b a;show i5 q c a;have:=lk_none.mp h;simp;intro e;exact this (NI.mpr ⟨q,c,e⟩)
 rw[this];simp[dR]
section
variable(L:aZ)(C:eQ)(m:Nat)
noncomputable def shE:Nat->Te->Rm->Bool
 |0,_,_=>false
 |_+1,.cl a b,R=>MR&&((lk R a).isSome&&decide (lk R a=lk R b))
 |d+1,.pu n ts,R=>inN L n&&(!(lk R n).isSome&&(decide (ts.length=opN (R.map (·.2)) m)&&(List.range ts.length).all λi=>match ts[i]? with|dY t=>shE d t (R++[(n,fQ)])|none=>true))
#print "-"
theorem QrI{a b:SM}{σ σ1:MSt}{h h1:MH}{f:zI}(e:j3 a=gP σ1 h1)(c:b σ1 h1=f):QG a b σ h=f:=by
 unfold QG;rw[e];exact c
noncomputable abbrev tS9(L:aZ)(C:eQ)(m:Nat)(k:Nat)(t:W)(x5 x6 x7 x8 x9 x10:bY):MSt:=[qM,vN,sO l0,sO (aD k),sO t,x5,x6,x7,x8,x9,x10]
theorem QnL{t:Te}:X5 0 [lsN L,lsQ C,jR,aF k,Q1 t]=sO ([lsN L,lsQ C,jR,hJ,Q1 t],[k]):=by
 cases t<;>simp[X5,enc_cl,Vw,QiI,pur]
theorem QhL{m:FM}{args as:aI}{k:Nat}{R:Rm}{h:MH}{w:W}(b:BP=sO (as,[k]))(a:Z8 Ch [k]=sO [cH])(e:∃g,m as [cH]=sO (w,cH::g))(hw:mE:=by rfl):AV=d7 w h:=by
 obtain⟨g,e⟩:=e;exact QcQ (g:=g) b aB a e hw
theorem QjA {L:aZ} {C:eQ} {m:Nat} (hm:wH) (d:Nat):∀(t:Te) (R:Rm) (h:MH) (k:Nat),zS->R.length+d<=100->h[k]?=sO (.dic tW)->Z1 d [lsN L,lsQ C,jR,aF k,Q1 t] h=jj0:=by
 induction d with
 |zero=>intro t R h k hd;have:=Qfo t;omega
 | succ d ih=>
  intro t R h k hd hR hk
  have pk:Z8 Ch [k]=sO [cH]:=by
   have:Wo (.dic tW)=true:=by show JC _=true;rw[QmS];generalize R.map (·.2)=l;simp
   simp[Z8,Ub,hk,this]
  have J:∀g:MH,Wb (cH::g) b'=sO tW:=λg=>rfl
  have u:∀(neg:Bool) (x:Int) (g:MH),YZ neg (jF x) b' (cH::g)=sO (zR7,cH::g):=λneg x g=>by
   unfold YZ;simp only[J,Wm,Nk,N7,Qf8,D4]
  cases t with
  | cl a b=>
   refine QcQ (g:=[]) QnL aB pk ?_ rfl;have Q:=λh=>Qqp (neg:=false) (C:=C) (a:=a) (b:=b) (h:=h);rw[enc_cl];cases p:MR with
   |false=>
    simp[Zv,QM,Qky,Q,p,shE]
   | true=>
    cases o:lk R a with
    |none=>simp[Zv,QM,Qky,Q,p,shE,u,o]
    | some x=>
     have e2:∀g:MH,Qcl b' (jF a) (cH::g)=sO (aC x,cH::g):=λg=>by
      unfold Qcl;simp only[J,Wm,Nk,Qf8,o,N7]
     have e3:∀g:MH,Qf7 b' [aC b] (cH::g)=sO (((lk R b).map W.int).getD .non,cH::g):=λg=>by
      unfold Qf7;simp only[J,Wm,Nk,Qf8,N7]
     cases N:lk R b with
     |none=>
      have e4:∀h:MH,wEq (jF x) .non h=sO (iL,h):=λh=>rfl;simp[Zv,QM,Qky,Q,p,shE,u,o,e2,e3,N,tyW,e4]
     |some y=>
      simp[Zv,QM,Qky,Q,p,shE,u,o,e2,e3,N,tyW];rw[IY];simp
  | pu n c=>
   show zP9 Y
   have e6:∀g:MH,QoG (hJ,cH::g)=sO (tkW (R.map (·.2)),cH::g):=λg=>by
    unfold QoG;rw[J,N7,QmS]
   have e7:=λh=>Qgx (ts:=R.map (·.2)) (m:=m) (by rw[Ny];omega) h;refine QhL (k:=k) (R:=R) QnL pk ?_;rw[Vw];cases p:inN L n with
   |false=>exact⟨[],by simp[Zv,QM,I,p,shE]⟩
   | true=>
    cases o:lk R n with
    |some x=>exact⟨[],by simp[Zv,QM,I,p,u,o,shE]⟩
    | none=>
     by_cases N:c.length=opN (R.map (·.2)) m
     ·have s:(c.length:Int)=(opN (R.map (·.2)) m:Nat):=cC
      have Z:(dR R).length<sizeLine:=Ni (by unfold dR;rw[Ny];omega:(dR R).length<101) aE
      have lp:=Wh (items:=ZR (lN c)) (b:=ZQ [8,9]) (body:=JS (Z1 d)) (λi T h=>∃(X U f:bY) (g:MH),T=tS9 L C m 0 (jI c) nO (bL n) rO X U f/\h=cH::g/\∀(j:Nat) (t:Te),j<i->c[j]?=sO t->shE L C m d t kB=true)
       (λv h=>∃g,v=iL/\h=cH::g/\∃(j:Nat) (t:Te),c[j]?=sO t/\shE L C m d t kB=false) (ZR (lN c)) 0 (tS9 L C m 0 (jI c) nO (bL n) rO nO nO nO) [cH] ⟨nO,nO,nO,[],rfl,rfl,λj t F=>pX F⟩ (by
       rintro j w F T h1 ⟨X,U,f,g,rfl,rfl,q⟩
       rw[NR]at q
       have E:(c.map Q1)[j]?.map (λe=>W.tup [.int (j:Nat),e])=sO w:=by
        unfold ZR at F;rw[Nq,DA,Ybe,NR]at F;exact F
       rw[Nq,Ybe]at E;show s9 t D E;refine⟨tS9 L C m 0 (jI c) nO (bL n) rO (bL j) v9 f,rfl,?_⟩;have P:=ih t kB (cH::(g++[.dic (dR kB)])) (C4 g) (Y t (EK D)) kZ aB
       have s1:∀{M:SM} {r:zI},M (tS9 L C m 0 (jI c) nO (bL n) rO (bL j) v9 RE) (cH::(g++[.dic (dR kB)]))=r->QG (Zi 10 (mFn UF (Qc aW Ql))) (QG (QaQ r0 dB j0) M) (tS9 L C m 0 (jI c) nO (bL n) rO (bL j) v9 f) (cH::g)=r:=λe=>by
        refine QrI (σ1:=tS9 L C m 0 (jI c) nO (bL n) rO (bL j) v9 RE) (h1:=cH::(g++[cH])) ?_ (QrI ?_ e)
        ·have:UF [hJ] (cH::g)=sO (.ref (C4 g),cH::(g++[cH])):=by
          unfold UF;simp[J]
         simp[this]
        ·have:=QiT (mo:=Qg 10) (mi:=Qg 6) (mv:=Qg 8) (σ:=tS9 L C m 0 (jI c) nO (bL n) rO (bL j) v9 RE) (h:=cH::(g++[cH])) (h1:=cH::(g++[cH])) (v:=aC j) (n:=g.length+1) (i:=aC n) (k:=eH n) (kvs:=dR R) rfl rfl rfl rfl aB Z;rw[this,Qmq o];simp
       cases S:shE L C m d t kB with
       |true=>
        refine .inl ⟨tS9 L C m 0 (jI c) nO (bL n) rO (bL j) v9 RE,cH::(g++[.dic (dR kB)]),jp9,_,_,_,g++[.dic (dR kB)],rfl,rfl,eE i t' O A⟩;show zP6 O
        ·subst z;show bK D A;exact S
       |false=>
        exact .inr ⟨iL,cH::(g++[.dic (dR kB)]),jp9,g++[.dic (dR kB)],rfl,rfl,j,t,D,S⟩)
      have ei:UU kE (tS9 L C m 0 (jI c) nO (bL n) rO nO nO nO) [cH]=sO (ZR (lN c),nO,[cH]):=rfl
      have G:As c=(List.range c.length).all λi=>match c[i]? with|dY t=>shE L C m d t (R++[(n,fQ)])|none=>true:=by
       simp[shE,p,o,N]
      rcases lp with⟨ab,h',el,X,U,f,g,rfl,rfl,q⟩|⟨v,h',el,g,rfl,rfl,j,t,D,hf⟩
      ·have H:=zX8
       have et:As c=true:=by
        rw[G,EW];intro i O;have B:=Ep.mp O;rw[Nj B];exact q i _ (by unfold ZR;simp;exact B) (Nj B)
       show zP7;simp[QM,I,p,u,o,e6,e7,s,H]
      ·have H:=zX8
       have et:As c=false:=by
        rw[G,LN];refine⟨j,Ep.mpr (bX D),?_⟩;rw[D];simp[hf]
       show zP7;simp[QM,I,p,u,o,e6,e7,s,H]
     ·have s:¬(c.length:Int)=(opN (R.map (·.2)) m:Nat):=cC
      exact⟨[],by simp[Zv,QM,I,p,u,o,e6,e7,N,s,shE]⟩
theorem Qpd:∀(B A:Rm),((A++B).map (·.1)).Nodup->QdV (dR A) (dR B)=dR (A++B):=by
 intro B
 induction B with
 |nil=>intro A _;rw[Dd];rfl
 | cons q B a=>
  intro A h;have e:A++q::B=(A++[q])++B:=aP
  have b:lk A q.1=nO:=by
   rw[lk_none];intro c;rw[Ey,ND]at h;exact(Ew.mp h).2.2 _ c _ NF rfl
  rw[e]at h ⊢;rw[<-a (A++[q]) h];show QdV (QaY (dR A) (.inl q.1) (.int q.2)) (dR B)=_;rw[Qmq b]
theorem Qpf(R:Rm):prW kM=sO tW:=by
 induction R with
 |nil=>rfl
 |cons q R a=>
  show(Wm (.int q.1)).bind (λy=>(prW kM).map ((y,W.int q.2)::·))=_;rw[a];rfl
theorem Qmi{R:Rm}(a:(R.map (·.1)).Nodup)(b:R.length<=1000)(h:MH):KM [.lst kM] h=sO (eX,h++[cH]):=by
 unfold KM;have e:=Qpd R [] (bZ a);rw[DZ]at e;simp only[lsW,Nk,Qpf];rw[if_pos (by unfold dR;rw[Ny];omega),show QdV [] tW=dR R from e]
theorem QeR(R:Rm):JC kM=true:=by
 unfold lR
 induction R with
 |nil=>rfl
 |cons q R a=>simp[JC,pur,a]
theorem QcE{R:Rm}(f:R.length<=1000)(h:MH):Q3 [.lst kM,jR] h=sO (.int (opN (R.map (·.2)) m:Nat),h):=by
 refine QH (g:=[]) (by simp[JC,pur,QeR]) ?_ rfl
 have c:Z4 V8 (Zb aG) nL qG YF aL [sO (.lst kM),sO l0,nO] []=sO (.lst ((R.map (·.2)).map .int),[]):=by
  have:=Qe0 (fin:=V8) (mi:=Zb aG) (cp:=nL) (b:=P0) (me:=Qg 1) (σ:=[sO (.lst kM),sO l0,nO]) (h:=[]) (items:=lR R) (λd=>∃a b,d=[a,b]) (λw=>match w with|.tup [_,b]=>b|w=>w) rfl mZ (by
   rintro w hw d ⟨a,b,rfl⟩
   show uI q o
   exact⟨_,rfl,mZ,rfl⟩) (by unfold lR;rw[Ny];exact Nn f aE)
  rw[this];show sO (W.lst _,[])=_;unfold lR;rw[ED,ED];rfl
 have e:∀h,XW [.lst ((R.map (·.2)).map .int)] h=sO (.int ((Sb.uq (R.map (·.2))).length:Nat),h):=λh=>by
  unfold XW sqW;simp only[lsW,Nk,Qe6];rw[if_pos (by rw[Ny];omega)]
 have i:∀(a b:Nat) h,QdU [WP a,aC b] h=ji3:=λa b h=>by
  simp[QdU];split<;>(congr 3;omega)
 unfold XS;generalize Z4 V8 (Zb aG) nL qG YF aL=co at c;simp only[QM]at c ⊢;simp[c];simp only[ED]at e;simp[e,i,opN]
noncomputable abbrev wS9(L:aZ)(C:eQ)(m:Nat)(R:Rm)(t:W)(x5 x6:bY):MSt:=[qM,vN,sO l0,sO (.lst kM),sO t,x5,x6]
theorem QiG{xs ys:aI}{h:MH}(a:jh4):JE iK vR h=sO (.lst (xs++ys),h):=by
 unfold JE;simp[lsW,loW,a]
theorem Qin {L:aZ} {C:eQ} {m:Nat} (hm:wH) (d:Nat):∀(t:Te) (R:Rm),zS->R.length+d<=100->(R.map (·.1)).Nodup->∀h:MH,Zf d [lsN L,lsQ C,jR,.lst kM,Q1 t] h=jj0:=by
 induction d with
 |zero=>intro t R hd;have:=Qfo t;omega
 | succ d ih=>
  intro t R hd hR Y h;refine QH (g:=[cH]) (by simp[JC,pur,QeR,WC]) ?_ rfl;have p:=Qmi Y bR [];simp only[F7,DZ]at p;have dw:∀g:MH,Wb (cH::g) b'=sO tW:=λg=>rfl
  have u:∀(neg:Bool) (x:Int) (g:MH),YZ neg (jF x) b' (cH::g)=sO (zR7,cH::g):=λneg x g=>by
   unfold YZ;simp only[dw,Wm,Nk,N7,Qf8,D4]
  have e2:∀(a x:Int) (g:MH),lk R a=sO x->Qcl b' (jF a) (cH::g)=sO (aC x,cH::g):=λa x g c=>by
   unfold Qcl;simp only[dw,Wm,Nk,Qf8,c,N7]
  cases t with
  | cl a b=>
   have O:=λ(neg:Bool) h=>Qqp (neg:=neg) (C:=C) (a:=a) (b:=b) (h:=h);rw[enc_cl];cases o:MR with
   |false=>simp[QX,QM,p,O,o,shE]
   | true=>
    cases l:lk R a with
    |none=>simp[QX,QM,p,O,o,shE,u,l]
    | some x=>
     cases E:lk R b with
     |none=>simp[QX,QM,p,O,o,shE,u,l,E]
     |some y=>
      have f1:=λg=>e2 a x g l;have f2:=λg=>e2 b y g E;simp[QX,QM,p,O,o,shE,u,l,E,f1,f2];rw[IY];simp
  | pu n f=>
   show zP9 T;have X:=λh=>QcE (R:=R) (m:=m) bR h;rw[Vw];cases o:inN L n with
   |false=>simp[QX,QM,p,I,o,shE]
   | true=>
    cases l:lk R n with
    |some x=>simp[QX,QM,p,I,o,u,l,shE]
    | none=>
     by_cases E:f.length=opN (R.map (·.2)) m
     ·have r:(f.length:Int)=(opN (R.map (·.2)) m:Nat):=cC
      have ab:=UG (ts:=R.map (·.2)) (m:=m)
      have lp:=Wh (items:=zi0 f) (b:=ZP 6) (body:=ZN (Zf d)) (λi Q h=>∃(S:bY),Q=wS9 L C m R (jI f) (sO b') S/\h=[cH]/\∀(j:Nat) (t:Te),j<i->f[j]?=sO t->shE L C m d t kB=true)
       (λv h=>v=iL/\h=[cH]/\∃(j:Nat) (t:Te),f[j]?=sO t/\shE L C m d t kB=false) (QL 0 f.length) 0 (wS9 L C m R (jI f) (sO b') nO) [cH] ⟨nO,rfl,rfl,λj t J=>pX J⟩ (by
       rintro j w J Q h1 ⟨S,rfl,rfl,q⟩
       rw[NR]at q;have F:=bX J;rw[Zh]at F;obtain rfl:w=.int fK:=ST J
       have s:f[j]?=sO f[j]:=Nj F;generalize f[j]=t at s;refine⟨wS9 L C m R (jI f) (sO b') (bL j),rfl,?_⟩
       have N:=ih t kB (T t (EK s)) kZ (by
        rw[Ey,Ew];refine⟨Y,aP,λa ha b hb e=>?_⟩;have:b=n:=by simpa using hb
        subst this;subst e
        exact lk_none.mp l ha) [cH]
       have ea:JE (.lst kM) (.lst [cpW n fK]) [cH]=sO (.lst (lR kB),[cH]):=by
        rw[QiG (by unfold lR;simp;exact Nn (cC:zf4<=1000) aE)];unfold lR;simp
       have D:atI (lN f) fK=sO (Q1 t):=Hq s
       cases P:shE L C m d t kB with
       |true=>
        rw[P]at N;refine .inl ⟨wS9 L C m R (jI f) (sO b') (bL j),[cH],by simp[ea,D,N],_,rfl,rfl,eE i t' M A⟩;show zP6 M
        ·subst z;show bK s A;exact P
       |false=>
        rw[P]at N
        exact .inr ⟨iL,[cH],by simp[ea,D,N],rfl,rfl,j,t,s,P⟩)
      have ei:YG (Qc (mFn JB (Qc (Qn wIx a' dA) Ql)) Ql) (wS9 L C m R (jI f) (sO b') nO) [cH]=sO (zi0 f,nO,[cH]):=by
       have:=KA (ms:=Qc (mFn JB (Qc (Qn wIx a' dA) Ql)) Ql) (σ:=wS9 L C m R (jI f) (sO b') nO) (h:=[cH]) (h':=[cH]) (j:=f.length) aB bR bR;show Hd
      have G:As f=(List.range f.length).all λi=>match f[i]? with|dY t=>shE L C m d t (R++[(n,fQ)])|none=>true:=by
       rw[shE,o,l,m2 E];rfl
      rcases lp with⟨aa,Z,U,S,rfl,rfl,q⟩|⟨v,Z,U,rfl,rfl,j,t,s,hf⟩
      ·have H:=jb9
       have D:As f=true:=by
        rw[G,EW];intro i M;have B:=Ep.mp M;rw[Nj B];exact q i _ (by rw[Zh,NR];exact B) (Nj B)
       show zW1;simp[QM,p,I,o,u,l,X,r,H]
      ·have H:=jb9
       have D:As f=false:=by
        rw[G,LN];refine⟨j,Ep.mpr (bX s),?_⟩;rw[s];simp[hf]
       show zW1;simp[QM,p,I,o,u,l,X,r,H]
     ·have r:¬(f.length:Int)=(opN (R.map (·.2)) m:Nat):=cC
      simp[QX,QM,p,I,o,u,l,X,E,r,shE]
theorem QsG{h:MH}{n:Nat}{f:Fd}(a:k'):Z8 Ch [n]=sO [QO f]:=by
 have:Wo (QO f)=true:=by simp[QO,Wo]
 simp[Z8,Ub,a,this]
theorem Qdm{m:FM}{args as:aI}{n:Nat}{f a:Fd}{h g:MH}{w:W}(c:BP=sO (as,[n]))(d:k')(e:m as [QO f]=sO (w,QO a::g))(hw:mE):AV=sO (w,sM a):=by
 have:=QkV (os':=[QO a]) (g:=g) c aB (QsG d) e rfl (by simp[QO,Wo]) hw;rw[this];simp[Q0]
theorem Qr0{L:aZ}{i:Int}(h0:0<=i)(h1:i<pR+1):∃x:Nat,atI (kP::oP) i=eB x:=by
 obtain⟨k,rfl⟩:=DH h0;cases k with
 |zero=>exact⟨0,by have:=Q6 (xs:=W.int 0::oP) (n:=0);show wW⟩
 |succ k=>
  have b:k<L.length:=cC
  refine⟨L[k],?_⟩;have:=Q6 (xs:=W.int 0::oP) (n:=k+1);rw[this,Dm,Nq,Nj b];rfl
theorem Qsi(x y:Int):∃a b,QiX [x,y]=[a,b]:=by
 have c:(QiX [x,y]).Perm [x,y]:=Ll _ _;have d:=c.length_eq
 match h:QiX [x,y],d with
 |[a,b],_=>exact⟨a,b,rfl⟩
theorem Qqt(x y:Int):∃a b:Int,∀h:MH,QaE [.lst [aC x,aC y]] h=sO (.lst [aC a,aC b],h):=by
 obtain⟨a,b,e⟩:=Qsi x y;refine⟨a,b,gR⟩;have:=Qe6 [x,y];simp only[ND,E7]at this;unfold QaE;simp only[lsW,Nk,this];rw[if_pos aB,e];rfl
theorem Qmz{R:Rm}:X5 0 [lsN L,jR,.lst kM,aF k]=sO ([lsN L,jR,.lst kM,hJ],[k]):=by
 simp[X5,QeR]
noncomputable abbrev dS9(L:aZ)(m:Nat)(R:Rm)(x4 x5 x6 x7:bY):MSt:=[qM,sO l0,sO (.lst kM),sO b',x4,x5,x6,x7]
theorem Qiz{L:aZ}{m:Nat}(hL:zd8)(hm:wH)(d:Nat):∀(R:Rm) (f:Fd),R.length<=3->R.length<=L.length->3-R.length<d ->
  ∃(t:Te) (i:Fd),OkE (4-R.length) t/\∀(h:MH) (n:Nat),k'->ZF d [lsN L,jR,.lst kM,aF n] h=sO (Q1 t,sM i):=by
 induction d with
 |zero=>intro R f _ _ h;exact pX h
 | succ d U=>
  intro R f h3 hl hd;have S:L.length+1<=sizeLine:=Nn (cC:L.length+1<=9) aE;have v:1+L.length<=sizeLine:=Nn (cC:1+L.length<=9) aE;have r:(lR R).length=R.length:=by unfold lR;rw[Ny]
  have q:iY<pR+1:=cC
  have G:pR+1<1000000:=cC
  by_cases c:R.length=L.length\/2<R.length
  ·obtain⟨a0,a1⟩:=Yx (f:=f) q;obtain⟨x,J⟩:=Qr0 a0 a1;obtain⟨b0,b1⟩:=Yx (f:=tf f (pR+1)) q;obtain⟨y,I⟩:=Qr0 b0 b1;obtain⟨a,b,M⟩:=Qqt x y;refine⟨.cl a b,tf (tf f (pR+1)) (pR+1),Qa9 bR,λh n C=>Qdm (g:=[]) Qmz C ?_ (WC _)⟩;have p:zG9=L.length\/(2:Int)<R.length:=cC
   rw[enc_cl]
   have P:∀h,JE (.lst [kP]) (lsN L) h=sO (.lst (kP::oP),h):=λh=>by
    rw[QiG (bZ v)];rfl
   show i7 p
   ·simp[JJ,QM,r,p,q,G,P,J,I,M]
   ·simp[JJ,QM,r,p,q,G,P,J,I,M]
  ·have c1:¬zG9=L.length:=cC
   have c2:¬(2:Int)<R.length:=cC
   have o:R.length<L.length:=cC
   have O:atI j9 zG9=sO (.int (L[R.length]'o:Nat)):=atN o;generalize L[R.length]=e at O;have eo:=λh=>QcE (R:=R) (m:=m) bR h;have Y:=UG (ts:=R.map (·.2)) (m:=m)
   obtain⟨Q,Z,el,A,i,bs,rfl,rfl,F,l⟩:=Va (items:=QL 0 (opN (R.map (·.2)) m)) (b:=ZP 7) (body:=J1 (ZF d)) (λk u h=>∃(A:bY) (i:Fd) (bs:mL),u=dS9 L m R nO (bL e) (sO eP) A/\h=[QO i,yD]/\bs.length=k/\∀t∈bs,OkE (3-R.length) t)
    (QL 0 (opN (R.map (·.2)) m)) 0 (dS9 L m R nO (bL e) (sO eP) nO) [QO f,cK] ⟨nO,f,[],rfl,rfl,rfl,aP⟩ (by
    rintro j w H u h ⟨A,i,bs,rfl,rfl,F,l⟩
    have D:=bX H;rw[Zh]at D;obtain rfl:w=.int fK:=ST H
    obtain⟨t,f2,X,et⟩:=U (R++[((e:Int),fK)]) i kZ kZ kZ;have s:=et [QO i,yD] 0 rfl
    have ea:∀h,JE (.lst kM) (.lst [cpW e fK]) h=sO (.lst (lR (R++[((e:Int),fK)])),h):=λh=>by
     rw[QiG (by rw[r];exact Nn (zK9:zf4<=1000) aE)];unfold lR;simp
    have E:bs.length<sizeLine:=Ni (cC:bs.length<1001) aE;refine⟨dS9 L m R nO (bL e) (sO eP) (bL j),rfl,dS9 L m R nO (bL e) (sO eP) (bL j),[QO f2,jv7],lH,_,f2,bs++[t],rfl,rfl,hY F,bG T B⟩
    ·simp only[YaQ]at s;simp[ea,s,E,tyW]
    ·show iV B z
     ·exact l T z
     ·rw[gF z]
      exact X.le (by simp<;>omega))
   have ei:YG (Qc (Qv 2 Q3 (Qc aR (Qc aL Ql))) Ql) (dS9 L m R nO (bL e) (sO eP) nO) [QO f,cK]=sO (QL 0 (opN (R.map (·.2)) m),nO,[QO f,cK]):=by
    have s:=eo [QO f,cK];have:=KA (ms:=Qc (Qv 2 Q3 (Qc aR (Qc aL Ql))) Ql) (σ:=dS9 L m R nO (bL e) (sO eP) nO) (h:=[QO f,cK]) (h':=[QO f,cK]) (j:=(opN (R.map (·.2)) m:Nat)) (eC s) bR bR;show Hd
   have N:=Ko (b:=ZP 7) (body:=J1 (ZF d)) ei el;refine⟨.pu e bs,i,?_,λh n C=>Qdm (g:=[yD]) Qmz C ?_ (WC _)⟩
   ·rw[show 4-R.length=(3-R.length)+1 by omega];exact QmP (by rw[Zh]at F;omega) l
   ·unfold JJ;rw[Vw];generalize Ve _ (ZP 7) (J1 (ZF d))=fo at N;simp[QM,r,c1,c2,O,N]
theorem QgU{t:Te}:X5 0 [Q1 t,lsN L,aF k]=sO ([Q1 t,lsN L,hJ],[k]):=by
 cases t<;>simp[X5,enc_cl,Vw,QiI,pur]
noncomputable abbrev bS9(t:W)(L:aZ)(x3 x4 x5:bY):MSt:=[sO t,qM,sO b',x3,x4,x5]
theorem Qqs{w0 w1 w2 w3 w4 w5:W}{i:Int}(h0:0<=i)(h1:i<6):∃w,atI [w0,w1,w2,w3,w4,w5] i=sO w/\(w=w0\/w=w1\/w=w2\/w=w3\/w=w4\/w=w5):=by
 have:i=0\/i=1\/i=2\/i=3\/i=4\/i=5:=cC
 rcases this with rfl|rfl|rfl|rfl|rfl|rfl
 ·exact⟨w0,rfl,aP⟩
 ·exact⟨w1,rfl,aP⟩
 ·exact⟨w2,rfl,aP⟩
 ·exact⟨w3,rfl,aP⟩
 ·exact⟨w4,rfl,aP⟩
 ·exact⟨w5,rfl,aP⟩
theorem Qfw(f:b->c)(xs:cE b)(lo a:dS):Ye ze4 lo a=(Ye xs lo a).map f:=by
 unfold Ye;simp[List.map_take,List.map_drop]
theorem QeG{xs:cE b}{lo a:dS}(h:x∈Ye xs lo a):x∈xs:=by
 unfold Ye at h
 first|exact Fb (FS h)|exact FS (Fb h)
theorem QkH{L:aZ}(hL:zd8){ts:mL}(C:Tm)(hd:∀t∈ts,zS){c n:Int}(h0:0<=c)(h1:c<6)(g:Fd){x5:bY} :
  ∃(t':Te) (g':Fd) (u:MH),dpE t'<=d+1/\Zz (bS9 (.tup [Mu,aC n,.tup L']) L (bL c) (sO eP) x5) [QO g,jN]=sO (.rt (Q1 t') (QO g'::u)):=by
 have hw:c=0\/c=1\/c=2\/c=3\/c=4\/c=5:=cC
 show jv8
 ·refine⟨.pu n (Ye ts nO sY),g,[jN],dp_pu.mpr λt e=>hd t (QeG e),?_⟩;rw[Vw];simp[Zz,Qfw]
 ·refine⟨.pu n (ts++Ye ts sY nO),g,[jN],dp_pu.mpr (bG t e),?_⟩
  ·show iV e z
   ·exact hd t z
   ·exact hd t (QeG z)
  ·rw[Vw]
   have s:(ts.map Q1).length+((Ye ts sY nO).map Q1).length<=sizeLine:=by
    have:=Qbu ts sY nO;rw[Ny,Ny];exact Nn (cC:ts.length+(Ye ts sY nO).length<=2000) aE
   have q:JE eP (.lst Ra) [QO g,jN]=sO (.lst ((ts++Ye ts sY nO).map Q1),[QO g,jN]):=by
    show((loW [QO g,jN] eP).bind λi=>(loW [QO g,jN] (.lst Ra)).bind λm=>if i.length+m.length<=sizeLine then sO (W.lst (i++m),[QO g,jN])else nO)=_;rw[show loW [QO g,jN] eP=sO L' from rfl,show loW [QO g,jN] (.lst Ra)=sO Ra from rfl,Nk,Nk,bH s,Ey]
   simp only[Ey]at q;simp[Zz,Qfw,q]
 ·refine⟨.pu n ts.reverse,g,[jN,jt4],dp_pu.mpr λt e=>hd t (List.mem_reverse.mp e),?_⟩
  have p:QgN [wU] [QO g,jN]=sO (.ref 2,[QO g,jN,jt4]):=by
   unfold QgN;simp[lsW]
  rw[Vw];simp only[On]at p ⊢;simp[Zz,p]
 ·have o:iY<pR+1:=cC
  have r:pR+1<1000000:=cC
  obtain⟨B,A⟩:=Yx (f:=g) o
  obtain⟨x,w⟩:∃x:Int,atI (.int (n+1)::oP) (tk g (pR+1))=eB x:=by
   obtain⟨k,v⟩:=DH B;rw[v]at A ⊢;have:=Q6 (xs:=W.int (n+1)::oP) (n:=k);rw[this];cases k with
   |zero=>exact⟨n+1,rfl⟩
   |succ k=>
    have j:k<L.length:=cC
    exact⟨(L[k]:Nat),by rw[Dm,Nq,Nj j];rfl⟩
  have y:∀h,JE (.lst [.int (n+1)]) (lsN L) h=sO (.lst (.int (n+1)::oP),h):=λh=>by
   rw[QiG (by simp;exact Nn (cC:1+L.length<=9) aE)];rfl
  refine⟨.pu x ts,tf g (pR+1),[jN],dp_pu.mpr hd,?_⟩;rw[Vw];simp[Zz,o,r,y,w]
 ·refine⟨.pu n ts,g,[jN],dp_pu.mpr hd,?_⟩;have l:∀a b:W,atI [a,b] 0=sO a:=sT;rw[Vw];simp[Zz,l]
 ·refine⟨.cl n (n+1),g,[jN],(Qa9 lC).1,?_⟩;have l:∀a b:W,atI [a,b] 1=sO b:=sT;rw[enc_cl];simp[Zz,l]
theorem QeI{L:aZ}(hL:zd8)(d:Nat):∀(t:Te) (f:Fd),OkE d t ->
  ∃(t':Te) (Q:Fd),dpE t'<=d/\∀(h:MH) (n:Nat),k'->VW d [Q1 t,lsN L,aF n] h=sO (Q1 t',sM Q):=by
 induction d with
 |zero=>intro t f h;have:=Qfo t;have:=h.1;omega
 | succ d J=>
  intro t f A;obtain⟨H,G⟩:=Yx (f:=f) (m:=6) aE;have X:((6:Int)<1000000):=d5
  cases t with
  | cl a b=>
   obtain⟨w,R,hw⟩:=Qqs (w0:=.tup [yT,aC b,aC a]) (w1:=.tup [yT,aC a,.int (b+1)]) (w2:=.tup [yT,aC a,aC a]) (w3:=.tup [yT,kP,aC b]) (w4:=.tup [yT,aC a,aC b]) (w5:=.tup [Mu,aC a,.tup []]) H G
   have key:∃t':Te,dpE t'<=d+1/\w=Q1 t':=by
    show jv8
    ·exact⟨.cl b a,(Qa9 lC).1,enc_cl.symm⟩
    ·exact⟨.cl a (b+1),(Qa9 lC).1,enc_cl.symm⟩
    ·exact⟨.cl a a,(Qa9 lC).1,enc_cl.symm⟩
    ·exact⟨.cl 0 b,(Qa9 lC).1,enc_cl.symm⟩
    ·exact⟨.cl a b,(Qa9 lC).1,enc_cl.symm⟩
    ·exact⟨.pu a [],dp_pu.mpr aB,by rw[Vw];rfl⟩
   obtain⟨t',u,rfl⟩:=key;refine⟨t',tf f 6,u,λh n M=>Qdm (g:=[]) QgU M ?_ (WC _)⟩;rw[enc_cl];simp[Jw,QM,R]
  | pu n i=>
   obtain⟨N,q⟩:=A.sub;have hd:∀t∈i,zS:=λt y=>(q t y).1;have go:∀g:Fd,∃(t':Te) (v:Fd) (r:MH),dpE t'<=d+1/\Zz (bS9 (jI i) L (sO (.int (tk f 6))) (sO eP) nO) [QO g,.lst (lN i)]=sO (.rt (Q1 t') (QO v::r)):=λg=>QkH hL N hd H G g;have C:∀g:Fd,Qcq [.tup (lN i)] [QO g]=sO (wU,[QO g,.lst (lN i)]):=λg=>rfl
   by_cases c:i=[]
   ·obtain⟨t',v,r,u,e⟩:=go oN;refine⟨t',v,u,jc0⟩;rw[Vw];subst c;simp only[E7]at e ⊢;have x:=C oN;simp only[E7]at x;simp[Jw,QM,x,e]
   ·have o:0<i.length:=Da.mpr c;have l:iY<i.length:=cC
    have B:(i.length:Int)<1000000:=cC
    by_cases F:0<tk oN 3
    ·obtain⟨U,b1⟩:=Yx (f:=tf oN 3) l;obtain⟨k,p⟩:=DH U;have s:k<i.length:=cC
     have S:atI (lN i) (tk (tf oN 3) i.length)=sO (Q1 i[k]):=by
      rw[p];have:=Q6 (xs:=i.map Q1) (n:=k);rw[this,Nq,Nj s];rfl
     have I:ixN i.length (tk (tf oN 3) i.length)=sO k:=by
      rw[p];unfold ixN;rw[if_pos bR,if_pos bR,Ec]
     obtain⟨D,f2,P,T⟩:=J i[k] (tf (tf oN 3) i.length) (q _ (E4 s));have E:=T [QO (tf (tf oN 3) i.length),.lst (lN i)] 0 rfl;simp only[YaQ]at E;refine⟨.pu n (i.set k D),f2,dp_pu.mpr (bG t y),λh j O=>Qdm (g:=[.lst ((i.set k D).map Q1)]) QgU O ?_ (WC _)⟩
     ·rcases List.mem_or_eq_of_mem_set y with z|z
      ·exact hd t z
      ·rw[z];exact P
     ·rw[Vw,Vw];simp[Jw,QM,C,o,l,B,F,S,I,E,List.map_set]
    ·obtain⟨t',v,r,u,e⟩:=go (tf oN 3);refine⟨t',v,u,jc0⟩;rw[Vw];simp[Jw,QM,C,o,l,F,e]
theorem Qpq(h0:2<=m)(h1:m<=8):Builtin.Range.small 0 m 2=true/\∃n:Nat,(Builtin.Range.rangeSize 0 m 2).toNat=n/\n<=4:=by
 have key:∀n:Fin 9,Builtin.Range.small 0 (n.val:Int) 2=true/\(Builtin.Range.rangeSize 0 (n.val:Int) 2).toNat<=4:=d5
 obtain⟨n,rfl⟩:=DH (Fj aE h0);have h:=key ⟨n,Nat.lt_succ_of_le (Int.ofNat_le.mp h1)⟩;exact⟨h.1,_,rfl,h.2⟩
theorem QhB(e:j3 a=sO ([kP,aC m,.int 2],h'))(h0:2<=m)(h1:m<=8):∃n:Nat,n<=4/\Qi7 a σ h=sO (J8 0 2 n,nO,h'):=by
 obtain⟨b,n,c,d⟩:=Qpq h0 h1;show r4 n d;unfold Qi7;rw[e,Nk];refine(if_pos ⟨d5,d5,b⟩).trans ?_;rw[c]
theorem QmD{M:iM}:Qaz (M.map VJ)<=39:=Wp λw hw=>by
 show rQ m;have:=Qij (q:=m.2);simp[VJ,dep,Qaz];lia
theorem QgX(b:zf8)(c:zi9):wNe a a h=sO (iL,h):=by rw[Qsr b b c c,Qcm a b];rfl
theorem QlI(d:σ[2]?=sO q8)(c:jM):Z4 V8 (Zb aR) [nO] iN YF (Qv 1 QY (Qc (Qn wIx aG aK) Ql)) σ h=sO (Vh p,h):=by
 have i:=c.len;generalize f:Qv 1 QY (Qc (Qn wIx aG aK) Ql)=b
 have em:∀x∈p,b [sO (Xy x)] h=sO (zg6,h):=λx a=>by
  have j:∀h,QY [.tup m6] h=sO (zg6,h):=λh=>QdZ x.2 (c.bal x a) (Qhl c a) (by have:=c.sz x a;exact Nw (Np this aE)) h;rw[<-f];simp[j,Xy]
 have:=XM (fin:=V8) (mi:=Zb aR) (cp:=[nO]) (me:=b) (σ:=σ) (h:=h) (caps:=[]) (items:=p.map Xy) (λw=>((b [sO w] h).map (·.1)).getD .non) (by unfold Zb Qg;rw[d];rfl) ⟨nO,rfl⟩ (λw hw=>by show uI x a;rw[em x a];rfl) (by rw[Ny];exact X6 (Nw (Np i aE)));rw[ED,F5 (g:=λx=>zg6) λx a=>by show Option.getD _ _=_;rw[em x a];rfl]at this;exact this
section
variable{N:Nat}{bs ws:aO}{p:bM}{out:cD}{M:iM}
theorem UH(a:gC)(A:jW)(d:mX<=8)(h:MH):QS A9 h=sO (lsN h8,h):=by
 refine QH (g:=[]) aB ?_ (eC Z5);have b:=QaP a A [];have c:¬(8:Int)<mX:=cC
 simp[J5,QM,b,Z7,c]
noncomputable def tyO:Option Te->W
 |none=>.non
 |dY t=>Q1 t
theorem QmJ(b:gC)(A:jW)(c:mX<=8)(a:uS)(n:yC){m:Nat}(l:wH) :
  ∃o:Option Te,(∀t,o=sO t->OkE 10 t)/\∀h:MH,XE [Zx p,n5 M,jR] h=sO (tyO o,h):=by
 have i:=λh=>UH b A c h;have f:=λh=>Yv b bR A a n h;obtain⟨o,j,q⟩:=Qg4 (L:=mI) (C:=ms gY) (m:=m) c l 10 [] aB kZ;have d:∀h,Kx [lsN h8,lsQ (ms gY),jR,.tup []] h=sO (Qce o,h):=q;cases o with
 |inl r=>
  refine⟨nO,zG2 e,λh=>QH (g:=[]) aB ?_ rfl⟩;simp[XO,QM,i,f,d,Qce,tyO]
 |inr t=>
  refine⟨sO t,bG s e,λh=>QH (g:=[]) aB ?_ (WC t)⟩
  ·cases e;exact(j t rfl).le kZ
  ·simp[XO,QM,i,f,d,Qce,tyO]
theorem QjJ(b:gC)(A:jW)(f:mX<=8)(a:uS)(e:yC){m:Nat}(d:wH){t:Te}(c:dpE t<=10)(h:MH) :
  VB [Zx p,n5 M,jR,Q1 t] h=sO (.bl (shE h8 (ms gY) m 10 t []),h):=by
 have n:=λh=>UH b A f h;have l:=λh=>Yv b bR A a e h;have j:=QjA (L:=mI) (C:=ms gY) (m:=m) d 10 t [] BO 0 c aB rfl;have i:V5 [lsN h8,lsQ (ms gY),jR,hJ,Q1 t] BO=sO (.bl (shE h8 (ms gY) m 10 t []),BO):=j;refine QH (g:=BO) (by simp[JC,WC]) ?_ rfl;simp[XX,QM,n,l,QeM,i]
theorem QdE(n:gC)(A:jW)(h:MH):Jo [Zx p,Vh p] h=sO (lsN h8,h):=by
 have c:=A.few
 have e:zG3=(List.range out.length).map Z5:=by
  unfold QL;exact F5 λk _=>hY Z5
 refine QH (g:=[]) (by simp[JC,pur]) ?_ (eC Z5)
 have ei:YG (Qc (mFn JB (Qc aR Ql)) Ql) [fZ,tB,sO (.lst eY)] []=sO (zG3,nO,[]):=by
  have:=KA (ms:=Qc (mFn JB (Qc aR Ql)) Ql) (σ:=[fZ,tB,sO (.lst eY)]) (h:=[]) (h':=[]) (j:=out.length) aB bR bR;show Hd
 have d:=QaV (fin:=V8) (mi:=YG (Qc (mFn JB (Qc aR Ql)) Ql)) (cp:=zI1) (mt:=Qy (Qn Kb (Qv 2 ZV (Qc aL (Qc (Qn wIx aR aG) Ql))) fB)) (me:=Qg 0) (σ:=[fZ,tB,sO (.lst eY)]) (caps:=[fZ,sO (.lst eY)]) (h:=[]) (items:=zG3) id (λw=>match w with|aC q=>zp9|_=>false) ei f9 (by
  intro w hw;rw[e]at hw;show uI q m;have b:=Ep.mp m;have l:=zL6 b;have t:atI eY (q:Int)=sO (QF eU):=by rw[Q6,Nq,Qgp b];rfl
  have s:∀h,ZV [Zx p,QF eU] h=sO (Qaf (mdS p eU),h):=λh=>QkS n l;have r:Xm (Qaf (mdS p eU))=(mdS p eU).isNone:=by cases mdS p eU<;>rfl
  simp[Z5,t,s,r]) (λw hw _=>rfl) (by rw[Zh];exact X6 (Nw (Np c aE)))
 have em:((QL 0 out.length).filter (λw=>match w with|aC q=>zp9|_=>false)).map id=(mkr p out).map Z5:=by
  rw[e,Lg,List.map_id];rfl
 rw[em]at d;simp only[V8]at d;have o:=A.a [];simp[VL,QM,o,d]
#print "-"
section
variable{N:Nat}{bs ws:aO}{p:bM}{out:cD}{M:iM}
noncomputable abbrev lV(ns:dO)(k:Nat)(x2 x3 x4 x5 x6 x7 x8 x9 x10 x11 x12:bY):MSt:=[sO (.frz l4),eB k,x2,x3,x4,x5,x6,x7,x8,x9,x10,x11,x12]
theorem QhF(x:gC)(A:jW)(B:mX<=8)(g:uS)(z:yC){m:Nat}(n:wH){T:mL}(y:∀t∈T,dpE t<=10){ns:dO}{k:Nat}{x3 x4 x9 x10 x11 x12:bY}{h:MH} :
  ∃d c a,JX (lN T) nO Pc Yn (lN T) (lV ns k q8 x3 x4 (sO hU) (sO (lsN h8)) (sO l0) (sO (lsQ (ms gY))) x9 x10 x11 x12) h
   = sO (.nx (lV ns k q8 x3 x4 (sO hU) (sO (lsN h8)) (sO l0) (sO (lsQ (ms gY))) x9 d c a) h):=by
 obtain⟨s,o,e,d,c,a,rfl,rfl⟩:=Va (items:=T.map Q1) (b:=ZP 10) (body:=Yn) (λ_ i o=>∃d c a,i=lV ns k q8 x3 x4 (sO hU) (sO (lsN h8)) (sO l0) (sO (lsQ (ms gY))) x9 d c a/\o=h) (lN T) 0 (lV ns k q8 x3 x4 (sO hU) (sO (lsN h8)) (sO l0) (sO (lsQ (ms gY))) x9 x10 x11 x12) h ⟨_,_,_,rfl,rfl⟩ (by
  rintro j w hw i f ⟨d,c,a,rfl,rfl⟩
  rw[Nq]at hw;obtain⟨t,v,rfl⟩:=Nf.mp hw;have hd:=y t (EK v);have r:=QjJ (m:=m) x A B g z n hd f;have G:=Qin (L:=mI) (C:=ms gY) (m:=m) n 10 t [] hd aB aB f;have q:Vd [lsN h8,lsQ (ms gY),jR,cK,Q1 t] f=sO (.bl (shE h8 (ms gY) m 10 t []),f):=G;have F:∀h,wNe hU hU h=sO (iL,h):=λh=>QgX (by simp[pln]) (by simp only[dep];have:=QmD (M:=M);exact Np this aE);have D:∀(l:aI) h,Qg3 [jG l] h=sO (jG l,h):=sT;have u:Wv "bool" "bool"=true:=d5
  generalize shE h8 (ms gY) m 10 t []=b at r q;have E:wNe lF lF f=sO (iL,f):=by cases b<;>rfl
  refine⟨_,rfl,lV ns k q8 x3 x4 (sO hU) (sO (lsN h8)) (sO l0) (sO (lsQ (ms gY))) x9 v9 (sO hU) (sO lF),f,lH,_,_,_,rfl,rfl⟩
  simp[D,r,q,F,E,u])
 exact⟨d,c,a,e⟩
theorem Qg7{ns:dO}{h:MH}{k:Nat}(hk:k<50){x2 x3 x4 x5 x6 x7 x8 x9 x10 x11 x12:bY}:∃y2 y3 y4 y5 y6 y7 y8 y9 g e d h',Yk (lV ns k x2 x3 x4 x5 x6 x7 x8 x9 x10 x11 x12) h=sO (.nx (lV ns k y2 y3 y4 y5 y6 y7 y8 y9 g e d) h'):=by
 obtain⟨f1,Q⟩:=QeA ns k (NT hk aE);obtain⟨bs,ws,p,O,hb,hw,⟨F,D,E⟩,ea⟩:=QdR f1 2 3 2 6 aE aE aE aE;obtain⟨f2,P⟩:=QeA ns (k+1) bR;obtain⟨M,u,J,eM⟩:=Qfp F hw.2 f2;have a:jM:=Qes F aE;obtain⟨out,A⟩:=QqA a;have n:=QpK F E D A.nd A.rc;have Z:=Q h;have v:=ea (h++[QO f1]) h.length KG;rw[Xu]at v;generalize h++[QO O]=H at v;have S:=P H;push_cast at S v;have R:=eM (oY f2) H.length KG;rw[Xu]at R;have B:∀(x3 x4 x5 x6 x7 x8 x9 x10 x11 x12:bY),Z4 V8 (Zb aR) [nO] iN YF (Qv 1 QY (Qc (Qn wIx aG aK) Ql)) (lV ns k q8 x3 x4 x5 x6 x7 x8 x9 x10 x11 x12) H=sO (Vh p,H):=λx3 x4 x5 x6 x7 x8 x9 x10 x11 x12=>QlI rfl a;have Y:=λh=>QdE a A h
 by_cases q:mX<=8
 ·have l:(mX:Int)<=8:=cC
  obtain⟨a0,a1⟩:=Yx (f:=u) (m:=4) aE;have C:=GZ (f:=u) (m:=4) aE aE (KG (H0:=H) (o:=QO u));rw[Xu]at C;obtain⟨m,hm⟩:=DH a0;rw[hm]at C;have j:wH:=cC
  generalize tf u 4=s at C;have e7:=λh=>Yv a (cC:mX<=11) A n J h;obtain⟨o,ho,e8⟩:=QmJ (m:=m) a A q n J j
  obtain⟨t,c,i,X⟩:∃(t:Te) (c:Fd),OkE 10 t/\∀(x10 x11 x12:bY),Ja (Qy (Qn wIs e' fB)) (Zi 9 (Qv 4 ZZ (Qc dB (Qc jE (Qc sN (Qc a' Ql)))))) QR (lV ns k q8 (sO (Vh p)) (sO (qD H)) (sO hU) (sO (lsN h8)) (sO l0) (sO (lsQ (ms gY))) (sO (tyO o)) x10 x11 x12) (oY s)
    = sO (.nx zk1 (oY c)):=by
   cases o with
   |some t=>
    refine⟨t,s,ho t rfl,λx10 x11 x12=>?_⟩;have:Xm (Q1 t)=false:=by cases t<;>simp[enc_cl,Vw,Xm]
    simp[tyO,this]
   |none=>
    obtain⟨t,c,D,et⟩:=Qiz (L:=mI) (m:=m) q j 5 [] s aB aB aB;have w:=et (oY s) H.length KG;rw[Xu]at w;have U:ZZ [lsN h8,jR,cK,zK0] (oY s)=sO (Q1 t,wM c):=w;refine⟨t,c,D.le aB,λx10 x11 x12=>?_⟩;simp[tyO,U]
  obtain⟨y,z,I,b1⟩:=QeI (L:=mI) q 10 t c i;have c1:=b1 (oY c) H.length KG;rw[Xu]at c1;obtain⟨x,r,G,b2⟩:=QeI (L:=mI) q 10 t z i;have c2:=b2 (oY z) H.length KG;rw[Xu]at c2;have d1:Zj [Q1 t,lsN h8,zK0] (oY c)=sO (Q1 y,wM z):=c1;have d2:Zj [Q1 t,lsN h8,zK0] (oY z)=sO (Q1 x,wM r):=c2;obtain⟨g,e,d,lp⟩:=QhF (m:=m) a A q n J j (T:=[t,y,x]) (by simp[i.1,I,G]) (ns:=ns) (k:=k) (x3:=tB) (x4:=sO (qD H)) (x9:=sO (Q1 t)) (x10:=x10) (x11:=x11) (x12:=x12) (h:=wM r)
  have ei:Zb (mFn V4 (Qc e' (Qc (Qv 3 Zj (Qc e' (Qc dB (Qc a' Ql)))) (Qc (Qv 3 Zj (Qc e' (Qc dB (Qc a' Ql)))) Ql)))) zk1 (oY c)=sO ([t,y,x].map Q1,nO,wM r):=by
   have:(mFn V4 (Qc e' (Qc (Qv 3 Zj (Qc e' (Qc dB (Qc a' Ql)))) (Qc (Qv 3 Zj (Qc e' (Qc dB (Qc a' Ql)))) Ql)))) zk1 (oY c)=sO (.lst ([t,y,x].map Q1),wM r):=zX d1 d2
   unfold Zb;show wW
  have lf:=Ko (b:=ZP 10) (body:=Yn) ei lp;refine⟨fZ,tB,sO (qD H),sO hU,sO (lsN h8),sO l0,sO (lsQ (ms gY)),sO (Q1 t),g,e,d,wM r,?_⟩
  ·unfold Yk;generalize Z4 V8 (Zb aR) [nO] iN YF (Qv 1 QY (Qc (Qn wIx aG aK) Ql))=co at B ⊢;generalize Ja (Qy (Qn wIs e' fB)) (Zi 9 (Qv 4 ZZ (Qc dB (Qc jE (Qc sN (Qc a' Ql)))))) QR=it at X ⊢;generalize Ve (Zb (mFn V4 _)) Pc Yn=fo at lf ⊢;simp[Z,v,B,S,R,Y,l,C,e7,e8,X,lf]
 ·have l:¬(mX:Int)<=8:=cC
  refine⟨fZ,tB,sO (qD H),sO hU,sO (lsN h8),x7,x8,x9,x10,x11,x12,wM u,?_⟩
  ·unfold Yk;generalize Z4 V8 (Zb aR) [nO] iN YF (Qv 1 QY (Qc (Qn wIx aG aK) Ql))=co at B ⊢;simp[Z,v,B,S,R,Y,l]
theorem main(ns:dO)(_:ns.length<=63):∃h',Yy [.frz (oG W)] []=sO (g7,h'):=by
 obtain⟨m,v⟩:∃m:Int,m=(if zU3>2 then zU3 else 2):=f9
 have I:2<=m:=by rw[v];split<;>lia
 have H:m<=8:=by rw[v];split<;>split<;>lia
 have P:(Qc aY (Qc (mFn Ql6 (Qc dA (Qc (mFn QdU (Qc sE (Qc (mFn JB (Qc aG Ql)) Ql))) Ql))) (Qc dA Ql))) [sO (.frz l4),nO,nO,nO,nO,nO,nO,nO,nO,nO,nO,nO,nO] []=sO ([kP,aC m,.int 2],[]):=by
  rw[v];simp only[QnO,s_c,QtA,QnK,Qo9,QkR,QnN,Qp4,QqD,Ny]
 obtain⟨n,hn,L⟩:=QhB P I H
 have f:=Va (items:=J8 0 2 n) (b:=ZP 1) (body:=Yk) (λ_ x _=>∃u t s r q o l j g d c a,x=[sO (.frz l4),u,t,s,r,q,o,l,j,g,d,c,a]) (J8 0 2 n) 0 [sO (.frz l4),nO,nO,nO,nO,nO,nO,nO,nO,nO,nO,nO,nO] [] ⟨_,_,_,_,_,_,_,_,_,_,_,_,rfl⟩ (by
  rintro i w G x h ⟨u,t,s,r,q,o,l,j,g,d,c,a,rfl⟩
  obtain⟨F,rfl⟩:=KE G;obtain⟨Z,Y,X,U,T,S,R,Q,B,A,z,h',e⟩:=Qg7 (ns:=ns) (k:=2*i) (x2:=t) (x3:=s) (x4:=r) (x5:=q) (x6:=o) (x7:=l) (x8:=j) (x9:=g) (x10:=d) (x11:=c) (x12:=a) (h:=h) aH;have J:iY+fQ*2=((2*i:Nat):Int):=aQ
  rw[J]
  exact⟨_,rfl,_,h',eH e,_,_,_,_,_,_,_,_,_,_,_,_,rfl⟩)
 obtain⟨y,h',O,u,t,s,r,q,o,l,j,g,d,c,a,rfl⟩:=f;show tL h';simp[Yy,QM,Ve,L,O]
#print "-"
#print "-My"
#print "-_Z"
namespace PySem.W.Fast
def tw1166830365720546908:=0
def tw15351562482876493929:=0
def tw10751399369621507013:=0
def tw4931812337821138587:=0
def tw14707899386802758049:=0
def tw13034517017177994733:=0
def tw8725025113713142797:=0
def tw16790457226261495867:=0
def tw16968553075770811176:=0
def tw2551703221812206878:=0
def tw1431038768104010226:=0
def tw11504491069239506245:=0
def tw6648949564442999460:=0
def tw160696160264005975:=0
def tw12776917880712856508:=0
def tw17461665504628673445:=0
def tw15224317867602484590:=0
def tw9233102128244419604:=0
def tw1289097671846413278:=0
def tw8101642132843827484:=0
def tw13640617002761064910:=0
def tw14225892176121108560:=0
def tw18057839751025358690:=0
def tw13044132219576244942:=0
def tw10603850079047681266:=0
def tw14148130544759065121:=0
def tw411893981432937085:=0
def tw2083603572522276760:=0
def tw5337335754626809447:=0
def tw12454871741522456401:=0
def tw14918949309154057022:=0
def tw4315669674441799901:=0
def tw2498771938287991854:=0
def tw8584518694098308713:=0
def tw8112849607824125657:=0
def tw8403340427264859370:=0
def tw7594734092432946737:=0
def tw9466026765858773175:=0
def tw14012972907006387602:=0
def tw930603140179129322:=0
def tw18168266671328998204:=0
def tw9597143981367580610:=0
def tw10193111630684668357:=0
def tw3321181955637670588:=0
def tw9745510662126679723:=0
def tw13864136048041503375:=0
def tw11826205048667657853:=0
def tw7063214895594840662:=0
def tw6031283790663985285:=0
def tw10660992819542346524:=0
def tw12939975702852045488:=0
def tw11473038078905253275:=0
def tw16458163607323094721:=0
def tw3488904903572853540:=0
def tw6837556297739644543:=0
def tw9467185898446415979:=0
def tw18207203160207589955:=0
def tw16049495909817860840:=0
def tw6163998127862118711:=0
def tw4424333751474921419:=0
def tw15562375632736916206:=0
def tw3027277225461050946:=0
def tw7380990407146859217:=0
def tw7966703300007022361:=0
def tw5884149796439436747:=0
def tw136683580301212642:=0
def tw9262707905986107919:=0
def tw7242317280496475853:=0
def tw10090173113086756774:=0
def tw12068684090517457592:=0
def tw6166874230332333740:=0
def tw12072716769915027122:=0
def tw17877514942412076869:=0
def tw9946251382161356108:=0
def tw5467951200226299921:=0
def tw2572563222705237337:=0
def tw2962118423946729241:=0
def tw2809212088200024922:=0
def tw2602024500067307919:=0
def tw5446699478276857634:=0
def tw2749666779994977720:=0
def tw2887862540198195367:=0
def tw2508514995193692979:=0
def tw14616786397699330689:=0
def tw2553651822008937463:=0
def tw6887355376966013158:=0
def tw8963876579573164225:=0
def tw9133671558855415592:=0
def tw9419591637180144722:=0
def tw1495603953590634069:=0
def tw833004538128583973:=0
def tw11259879908738514121:=0
def tw11952558452575254813:=0
def tw13923464198128659459:=0
def tw4903693725576576089:=0
def tw13553785480223880365:=0
def tw18131649023444694443:=0
def tw9963808543738158670:=0
def tw1138084988770692067:=0
def tw12845909777240497768:=0
def tw7950923505324769989:=0
def tw273430915096527274:=0
def tw7878069271606892138:=0
def tw16871140767691516365:=0
def tw8362250533900352668:=0
def tw1171737383811751100:=0
def tw14455499888125217728:=0
def tw1748506519518903580:=0
def tw13085550490000214979:=0
def tw16070408011177873994:=0
def tw7958977053937328333:=0
def tw7927266401876352231:=0
def tw14957712932247769594:=0
def tw17508443692826456849:=0
def tw2298259331949092858:=0
def tw6073633730065359544:=0
def tw12140479433334609533:=0
def tw16745406731556695605:=0
def tw9375456634511169711:=0
def tw4401457750323106943:=0
def tw10267333030500925261:=0
#print "-PySem.W.Fast"
end
open PySem PySem.W PyProof.Rows _Z
local macro_rules | `(tactic| walk_at $s:str) => do
  match s.getString with
  | "~0" => `(tactic| (dsimp only [L2.KOf]; refine' Mi.XR $(Lean.mkIdent `KX) $(Lean.mkIdent `G) ?a ?l ?c ?k ?b; (case a => k_is); (case l => k_is); (case c => k_is); (case k => k_is); (case b => exact fun _ _ _ _ _ _ => Mi.ar0 rfl)))
  | "~1" => `(tactic| (dsimp only [L2.KOf]; refine' Mi.XR $(Lean.mkIdent `KX) $(Lean.mkIdent `G) ?a ?l ?c ?k ?b; (case a => k_is); (case l => k_is); (case c => k_is); (case k => k_is); (case b => exact fun _ _ _ _ _ _ => Mi.ar1 (fun _ => rfl))))
  | "~2" => `(tactic| (dsimp only [L2.KOf]; refine' Mi.XR $(Lean.mkIdent `KX) $(Lean.mkIdent `G) ?a ?l ?c ?k ?b; (case a => k_is); (case l => k_is); (case c => k_is); (case k => k_is); (case b => exact fun _ _ _ _ _ _ => Mi.ar2 (fun _ _ => rfl))))
  | "~3" => `(tactic| (dsimp only [L2.KOf]; refine' Mi.XR $(Lean.mkIdent `KX) $(Lean.mkIdent `G) ?a ?l ?c ?k ?b; (case a => k_is); (case l => k_is); (case c => k_is); (case k => k_is); (case b => exact fun _ _ _ _ _ _ => Mi.ar3 (fun _ _ _ => rfl))))
  | "~4" => `(tactic| (dsimp only [L2.KOf]; refine' Mi.XR $(Lean.mkIdent `KX) $(Lean.mkIdent `G) ?a ?l ?c ?k ?b; (case a => k_is); (case l => k_is); (case c => k_is); (case k => k_is); (case b => exact fun _ _ _ _ _ _ => Mi.ar4 (fun _ _ _ _ => rfl))))
  | "~5" => `(tactic| (dsimp only [L2.KOf]; refine' Mi.XR $(Lean.mkIdent `KX) $(Lean.mkIdent `G) ?a ?l ?c ?k ?b; (case a => k_is); (case l => k_is); (case c => k_is); (case k => k_is); (case b => exact fun _ _ _ _ _ _ => Mi.ar5 (fun _ _ _ _ _ => rfl))))
  | "~6" => `(tactic| (dsimp only [L2.KOf]; refine' Mi.XR $(Lean.mkIdent `KX) $(Lean.mkIdent `G) ?a ?l ?c ?k ?b; (case a => k_is); (case l => k_is); (case c => k_is); (case k => k_is); (case b => exact fun _ _ _ _ _ _ => Mi.ar6 (fun _ _ _ _ _ _ => rfl))))
  | "~b" => `(tactic| (refine' PySem.W.mg_none_of $(Lean.mkIdent `KX) $(Lean.mkIdent `G) ?a; (case a => k_is)))
  | _ => Lean.Macro.throwUnsupported
set_option maxRecDepth 100000 in
set_option maxHeartbeats 0 in
theorem PySem.Challenge.cw_doneroom_k59_trees_looked_at_holds : PySem.Challenge.rw_doneroom_k59_trees_looked_at.Holds := by
  w_on; o_law; k_head; (case hw => w_witness2)
  k_fill
  refine Mi.Qpm (l := PySem.Challenge.rw_doneroom_k59_trees_looked_at) (st := My.QaS) (sem := My.Yy) (k := 14) rfl rfl ⟨rfl, by decide, by decide⟩ rfl (fun w h Y => PySem.W.kIn_of Y) (fun _ _ _ _ _ _ _ _ => .of_eq rfl) ?F My.main
  case F =>
    intro w mg h KX G
    have d__law_take : Mi.DefAt (L2.KOf KX) mg "_law_take" My.Vv ["feed", "many"] := by walk_at "~2"
    have d__law_names : Mi.DefAt (L2.KOf KX) mg "_law_names" My.Z2 ["feed", "many"] := by walk_at "~2"
    have d__law_step_on : Mi.DefAt (L2.KOf KX) mg "_law_step_on" My.Jm ["lines", "opened"] := by walk_at "~2"
    have d__law_plain : Mi.DefAt (L2.KOf KX) mg "_law_plain" My.J2 ["feed", "boxes", "words"] := by walk_at "~3"
    have d__law_part : Mi.DefAt (L2.KOf KX) mg "_law_part" My.Vr ["feed", "size", "menus", "later", "opens", "dos"] := by walk_at "~6"
    have d__law_program : Mi.DefAt (L2.KOf KX) mg "_law_program" My.Je ["feed", "bounds"] := by walk_at "~2"
    have d__law_feed : Mi.DefAt (L2.KOf KX) mg "_law_feed" My.Vx ["script", "k"] := by walk_at "~2"
    have d__law_words : Mi.DefAt (L2.KOf KX) mg "_law_words" My.J7 ["program"] := by walk_at "~1"
    have d__law_manner : Mi.DefAt (L2.KOf KX) mg "_law_manner" My.Z6 ["program", "feed"] := by walk_at "~2"
    have d__law_next : Mi.DefAt (L2.KOf KX) mg "_law_next" My.Vu ["program", "rows", "spot"] := by walk_at "~3"
    have d__law_all : Mi.DefAt (L2.KOf KX) mg "_law_all" My.Xd ["program", "rows"] := by walk_at "~2"
    have d__law_made : Mi.DefAt (L2.KOf KX) mg "_law_made" My.Vs ["program", "spot"] := by walk_at "~2"
    have d__law_makings : Mi.DefAt (L2.KOf KX) mg "_law_makings" My.ZO ["program", "rows"] := by walk_at "~2"
    have d__law_blocks : Mi.DefAt (L2.KOf KX) mg "_law_blocks" My.JK ["lines"] := by walk_at "~1"
    have d_first_spot : Mi.DefAt (L2.KOf KX) mg "first_spot" My.JZ [] := by walk_at "~0"
    have d_line_of : Mi.DefAt (L2.KOf KX) mg "line_of" My.Xz ["program", "spot"] := by walk_at "~2"
    have d_at_gap : Mi.DefAt (L2.KOf KX) mg "at_gap" My.Ki ["spot", "k"] := by walk_at "~2"
    have d_at_head : Mi.DefAt (L2.KOf KX) mg "at_head" My.XB ["spot", "k"] := by walk_at "~2"
    have d_level_change : Mi.DefAt (L2.KOf KX) mg "level_change" My.Jp ["line"] := by walk_at "~1"
    have d_head_of : Mi.DefAt (L2.KOf KX) mg "head_of" My.XC ["lines", "k"] := by walk_at "~2"
    have d_found_behind : Mi.DefAt (L2.KOf KX) mg "found_behind" My.Jf ["lines", "k", "kind"] := by walk_at "~3"
    have d_or_of : Mi.DefAt (L2.KOf KX) mg "or_of" My.Yj ["lines", "k"] := by walk_at "~2"
    have d_end_of : Mi.DefAt (L2.KOf KX) mg "end_of" My.Kg ["lines", "k"] := by walk_at "~2"
    have d_next_in_part : Mi.DefAt (L2.KOf KX) mg "next_in_part" My.Jn ["lines", "spot"] := by walk_at "~2"
    have d_behind_do : Mi.DefAt (L2.KOf KX) mg "behind_do" My.VE ["spot"] := by walk_at "~1"
    have d_part_number : Mi.DefAt (L2.KOf KX) mg "part_number" My.JH ["program", "name"] := by walk_at "~2"
    have d_next_spots : Mi.DefAt (L2.KOf KX) mg "next_spots" My.J9 ["program", "spot"] := by walk_at "~2"
    have d_spots : Mi.DefAt (L2.KOf KX) mg "spots" My.Yr ["program"] := by walk_at "~1"
    have d_place_of : Mi.DefAt (L2.KOf KX) mg "place_of" My.Xa ["spot"] := by walk_at "~1"
    have d_steps_of : Mi.DefAt (L2.KOf KX) mg "steps_of" My.Xh ["program"] := by walk_at "~1"
    have d_made_word : Mi.DefAt (L2.KOf KX) mg "made_word" My.Vq ["line"] := by walk_at "~1"
    have d_making_spots : Mi.DefAt (L2.KOf KX) mg "making_spots" My.ZJ ["program"] := by walk_at "~1"
    have d_giving_spots : Mi.DefAt (L2.KOf KX) mg "giving_spots" My.Zu ["program", "manner", "word"] := by walk_at "~3"
    have d_reached : Mi.DefAt (L2.KOf KX) mg "reached" My.XI ["steps", "starts", "shut"] := by walk_at "~3"
    have d_clashes : Mi.DefAt (L2.KOf KX) mg "clashes" My.Xv ["program", "manner"] := by walk_at "~2"
    have d_checked_makers : Mi.DefAt (L2.KOf KX) mg "checked_makers" My.ZM ["program"] := by walk_at "~1"
    have d_last_clash : Mi.DefAt (L2.KOf KX) mg "last_clash" My.J3 ["makers", "clashing", "taken"] := by walk_at "~3"
    have d_open_rooms : Mi.DefAt (L2.KOf KX) mg "open_rooms" My.Vb ["taken", "many"] := by walk_at "~2"
    have d_cases : Mi.DefAt (L2.KOf KX) mg "cases" My.Kw ["makers", "clashing", "many", "taken"] := by walk_at "~4"
    have d_too_few : Mi.DefAt (L2.KOf KX) mg "too_few" My.XD ["program", "manner", "many"] := by walk_at "~3"
    have d__law_open : Mi.DefAt (L2.KOf KX) mg "_law_open" My.VF ["rooms", "many"] := by walk_at "~2"
    have d__law_drawn : Mi.DefAt (L2.KOf KX) mg "_law_drawn" My.JA ["numbers", "many", "rooms", "feed"] := by walk_at "~4"
    have d__law_bent : Mi.DefAt (L2.KOf KX) mg "_law_bent" My.JU ["tree", "numbers", "feed"] := by walk_at "~3"
    have d_is_tree : Mi.DefAt (L2.KOf KX) mg "is_tree" My.V0 ["makers", "clashing", "many", "rooms", "tree"] := by walk_at "~5"
    have d_shows_few : Mi.DefAt (L2.KOf KX) mg "shows_few" My.VI ["program", "manner", "many", "tree"] := by walk_at "~4"
    have d__law_shows : Mi.DefAt (L2.KOf KX) mg "_law_shows" My.Js ["numbers", "clashing", "many", "rooms", "tree"] := by walk_at "~5"
    have d_law : Mi.DefAt (L2.KOf KX) mg "law" My.QaS ["script"] := by walk_at "~1"
    have g_MOST_MAKERS : Mi.Glob (L2.KOf KX) mg "MOST_MAKERS" My.Z7 := by
      dsimp only [L2.KOf]
      refine' Mi.QhU KX G ?a
      (case a => k_is)
    have b_bool : mg "bool" = none := by walk_at "~b"
    have b_dict : mg "dict" = none := by walk_at "~b"
    have b_enumerate : mg "enumerate" = none := by walk_at "~b"
    have b_isinstance : mg "isinstance" = none := by walk_at "~b"
    have b_len : mg "len" = none := by walk_at "~b"
    have b_list : mg "list" = none := by walk_at "~b"
    have b_max : mg "max" = none := by walk_at "~b"
    have b_min : mg "min" = none := by walk_at "~b"
    have b_range : mg "range" = none := by walk_at "~b"
    have b_reversed : mg "reversed" = none := by walk_at "~b"
    have b_set : mg "set" = none := by walk_at "~b"
    have b_sorted : mg "sorted" = none := by walk_at "~b"
    have b_tuple : mg "tuple" = none := by walk_at "~b"
    exact ⟨d_law, fun base kb nb => My.QkK d__law_take d__law_names d__law_step_on d__law_plain d__law_part d__law_program d__law_feed d__law_words d__law_manner d__law_next d__law_all d__law_made d__law_makings d__law_blocks d_first_spot d_line_of d_at_gap d_at_head d_level_change d_head_of d_found_behind d_or_of d_end_of d_next_in_part d_behind_do d_part_number d_next_spots d_spots d_place_of d_steps_of d_made_word d_making_spots d_giving_spots d_reached d_clashes d_checked_makers d_last_clash d_open_rooms d_cases d_too_few d__law_open d__law_drawn d__law_bent d_is_tree d_shows_few d__law_shows d_law g_MOST_MAKERS b_bool b_dict b_enumerate b_isinstance b_len b_list b_max b_min b_range b_reversed b_set b_sorted b_tuple⟩
