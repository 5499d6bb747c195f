package compact

import (
	"slices"
	"strings"

	"tapestry/api"
)

const growth = 4 // a level may have so many times the bytes of the one above

// goesDown tells whether there is a level below one.
func goesDown(level int) bool { return level >= 0 && level < api.Levels-1 }

// Score is how much there is in a level, and how much there may be.
func Score(c api.StoreConfig, l api.Live, level int) (int, int) {
	if !mayBe(c) || !goesDown(level) {
		return 0, 0
	}
	if level == 0 {
		return len(l.Tables[0]), c.Files0 - 1
	}
	bytes, most := 0, c.Base
	for _, t := range l.Tables[level] {
		bytes += t.Size
	}
	for range level - 1 {
		most *= growth
	}
	return bytes, most
}

// Pick is the compaction that is due; false: none is. after: of each level the greatest key that the last one from there took.
func Pick(c api.StoreConfig, l api.Live, after [api.Levels]string) (api.Job, bool) {
	for level := range l.Tables {
		if much, most := Score(c, l, level); much > most {
			return job(l, level, after[level]), true
		}
	}
	return api.Job{}, false
}

// job is the compaction of a level that has a table at least, and one below it.
func job(l api.Live, level int, after string) api.Job {
	from := l.Tables[level]
	if level > 0 {
		from = behind(from, after)
	}
	to := spanOf(from...).touched(l.Tables[level+1])
	all := spanOf(slices.Concat(from, to)...)
	deeper := slices.Concat(l.Tables[level+2:]...)
	return api.Job{Level: level, From: own(from), To: own(to), Bottom: len(all.touched(deeper)) == 0}
}

// behind is the first table of a list that reaches beyond a key, alone; the first one, if none does: so all of a level come in turn.
func behind(list []api.Table, key string) []api.Table {
	at := slices.IndexFunc(list, func(t api.Table) bool { return t.Greatest > key })
	at = max(at, 0)
	return list[at : at+1]
}

// span is what lies from a key to a key.
type span struct{ least, greatest string }

// spanOf goes from the least key of tables, one at least, to their greatest.
func spanOf(list ...api.Table) span {
	s := span{list[0].Least, list[0].Greatest}
	for _, t := range list[1:] {
		s.least, s.greatest = min(s.least, t.Least), max(s.greatest, t.Greatest)
	}
	return s
}

// touched are those tables of a list in which a key may lie that lies in the span, too.
func (s span) touched(list []api.Table) []api.Table {
	var l []api.Table
	for _, t := range list {
		if t.Greatest >= s.least && s.greatest >= t.Least {
			l = append(l, t)
		}
	}
	return l
}

// own are tables in memory of their own.
func own(list []api.Table) []api.Table {
	l := slices.Clone(list)
	for i := range l {
		t := &l[i]
		t.Least, t.Greatest = strings.Clone(t.Least), strings.Clone(t.Greatest)
	}
	return l
}
