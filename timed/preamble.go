package timed

import (
	"strconv"

	"cspcheck/api"
)

// ownPrefix begins the names that Translate declares. Timed is no name of a source.
const ownPrefix = "Timed::"

// preamble returns the declarations that all timed sections share.
func (at place) preamble() [][]api.Node {
	a, b, n, p := at.own("a"), at.own("b"), at.own("n"), at.own("p")
	tock, stop, skip, wait := at.own("tock"), at.own("stop"), at.own("skip"), at.own("wait")
	later := at.call(wait, at.node(api.OpSub, n, at.number(1)), p)
	return [][]api.Node{
		at.fun("tock", at.name("tock")),
		at.fun("union", at.call(at.name("union"), a, b), a, b),
		at.fun("diff", at.call(at.name("diff"), a, b), a, b),
		at.fun("stop", at.node(api.OpPrefix, tock, stop)),
		at.fun("skip", at.node(api.OpExtern, at.node(api.OpSkip), at.node(api.OpPrefix, tock, skip))),
		at.fun("wait", at.node(api.OpIf, at.node(api.OpLe, n, at.number(0)), p, at.node(api.OpPrefix, tock, later)), n, p),
	}
}

func delayName(section int) string {
	return "delay" + strconv.Itoa(section)
}

// delay returns the declaration of the delay function of a timed section, which calls a function of the program.
func (at place) delay(name, function string) []api.Node {
	e := at.own("e")
	return at.fun(name, at.call(at.name(function), e), e)
}
