package code

import "grapnel/api"

const (
	mostTexts = 1000
	mostCode  = 8000 // instructions
)

// builtIn tells the names of the exceptions with which an image's begin. The last one alone is of something.
func builtIn() [6]string {
	return [6]string{"Match_failure", "Division_by_zero", "Invalid_argument", "End_of_file", "Not_found", "Failure"}
}

func mayExns(l []api.Exn) bool {
	first := builtIn()
	if len(l) < len(first) || len(l) > api.TagLast+1 {
		return false
	}
	for k, name := range first {
		if l[k].Name != name || l[k].With != (k == len(first)-1) {
			return false
		}
	}
	seen := map[string]int{}
	for _, x := range l {
		if x.Name == "" || len(x.Name) > api.MaxSource {
			return false
		}
		seen[x.Name]++
	}
	return len(seen) == len(l)
}

func mayTexts(l []string) bool {
	for _, s := range l {
		if len(s) > api.MaxText {
			return false
		}
	}
	return len(l) <= mostTexts
}

func mayCode(i api.Image) bool {
	if len(i.Code) == 0 || len(i.Code) > mostCode {
		return false
	}
	for k, x := range i.Code {
		s, ok := shapeOf(x, len(i.Texts))
		if !ok || !s.mayNumbers(x) || !s.mayChoices(x) || !s.mayPlaces(x, len(i.Code)) {
			return false
		}
		if x.Op == api.IGrab && (k == 0 || i.Code[k-1].Op != api.IRestart) {
			return false
		}
	}
	return true
}

// mayNumbers tells whether A and B are as an instruction of this shape may have them.
func (s shape) mayNumbers(x api.Ins) bool {
	for k, n := range [2]int64{x.A, x.B} {
		var may span
		if k < len(s.numbers) {
			may = s.numbers[k]
		}
		if !may.has(n) {
			return false
		}
	}
	return true
}

// mayChoices likewise tells it of Ns and Ts.
func (s shape) mayChoices(x api.Ins) bool {
	if s.places != choices {
		return len(x.Ns) == 0 && len(x.Ts) == 0
	}
	tags := upTo(api.TagLast)
	return rises(x.Ns) && rises(x.Ts) && (len(x.Ts) == 0 || tags.has(x.Ts[0]) && tags.has(x.Ts[len(x.Ts)-1]))
}

// rises tells whether each number is greater than the one ahead of it.
func rises(l []int64) bool {
	for k := 1; k < len(l); k++ {
		if l[k-1] >= l[k] {
			return false
		}
	}
	return true
}

// mayPlaces tells whether L has as many places as an instruction of this shape may have, all of them in a code of so many instructions.
func (s shape) mayPlaces(x api.Ins, code int) bool {
	for _, p := range x.L {
		if p < 0 || p >= code {
			return false
		}
	}
	return s.placesOf(x).has(int64(len(x.L)))
}

// placesOf tells how many places an instruction of this shape may have.
func (s shape) placesOf(x api.Ins) span {
	switch s.places {
	case onePlace:
		return span{1, 1}
	case somePlaces:
		return span{1, mostParams}
	case choices:
		all := int64(len(x.Ns) + len(x.Ts) + 1)
		return span{all, all}
	}
	return upTo(0)
}
