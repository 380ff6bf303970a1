package infer

import "grapnel/api"

// The rules that tell a node's type. A pattern that is written as an expression has that one's rule.
const (
	noRule = iota // of a kind that there isn't, or that has no type
	intRule
	textRule
	variableRule
	builtinRule
	conRule
	tupleRule
	arrayRule
	recordRule
	getRule
	setRule
	elementRule
	putRule
	applyRule
	functionRule
	letRule
	recRule
	ifRule
	matchRule
	tryRule
	raiseRule
	whileRule
	forRule
	seqRule
	operationRule
	anyRule
	nameRule
	orRule
	asRule
)

// ruleOf tells which rule a kind has.
func ruleOf(kind int) int {
	switch kind {
	case api.KInt, api.QInt:
		return intRule
	case api.KText, api.QText:
		return textRule
	case api.KCon, api.QCon:
		return conRule
	case api.KTuple, api.QTuple:
		return tupleRule
	case api.KRecord, api.QRecord:
		return recordRule
	case api.QAny:
		return anyRule
	case api.QVar:
		return nameRule
	case api.QOr:
		return orRule
	case api.QAs:
		return asRule
	}
	return ruleOfExpr(kind)
}

// ruleOfExpr tells which rule a kind has that is an expression's alone.
func ruleOfExpr(kind int) int {
	switch kind {
	case api.KVar:
		return variableRule
	case api.KBuiltin:
		return builtinRule
	case api.KArray:
		return arrayRule
	case api.KGet:
		return getRule
	case api.KSet:
		return setRule
	case api.KAt:
		return elementRule
	case api.KPut:
		return putRule
	case api.KApp:
		return applyRule
	case api.KFun:
		return functionRule
	case api.KLet:
		return letRule
	case api.KRec:
		return recRule
	case api.KIf:
		return ifRule
	case api.KMatch:
		return matchRule
	case api.KTry:
		return tryRule
	case api.KRaise:
		return raiseRule
	case api.KWhile:
		return whileRule
	case api.KFor:
		return forRule
	case api.KSeq:
		return seqRule
	case api.KOp:
		return operationRule
	}
	return noRule
}

// how tells what finds a type by a rule.
// It is told, and called by who asks: cores are deep, and so nothing of the choice stays on the stack.
func how(rule int) func(*finder, *api.Core) api.Type {
	switch rule {
	case intRule:
		return (*finder).number
	case textRule:
		return (*finder).text
	case variableRule:
		return (*finder).variable
	case builtinRule:
		return (*finder).builtin
	case conRule:
		return (*finder).con
	case tupleRule:
		return (*finder).tuple
	case arrayRule:
		return (*finder).array
	case recordRule:
		return (*finder).record
	case getRule:
		return (*finder).get
	case setRule:
		return (*finder).set
	case elementRule:
		return (*finder).element
	case putRule:
		return (*finder).put
	case operationRule:
		return (*finder).operation
	case anyRule:
		return (*finder).any
	case nameRule:
		return (*finder).name
	case orRule:
		return (*finder).or
	case asRule:
		return (*finder).as
	}
	return howGuided(rule)
}

// howGuided tells the same of the rules for what applies, binds or chooses.
func howGuided(rule int) func(*finder, *api.Core) api.Type {
	switch rule {
	case applyRule:
		return (*finder).apply
	case functionRule:
		return (*finder).function
	case letRule:
		return (*finder).let
	case recRule:
		return (*finder).rec
	case ifRule:
		return (*finder).choice
	case matchRule:
		return (*finder).match
	case tryRule:
		return (*finder).try
	case raiseRule:
		return (*finder).raise
	case whileRule:
		return (*finder).while
	case forRule:
		return (*finder).loop
	case seqRule:
		return (*finder).seq
	}
	return (*finder).none
}

// none is for what Resolve doesn't tell.
func (f *finder) none(c *api.Core) api.Type { return f.wrong(api.ErrForm, c.At) }
