package journal

import (
	"strings"

	"aumbry/api"
	"aumbry/mix"
	"aumbry/num"
)

// Where the journal's blocks begin; where the copies do hangs on the disk.
const (
	headAt = 1
	listAt = 2
)

const (
	mark        = "jrnl"
	numberWidth = 2
	sumWidth    = 4
	perBlock    = api.BlockSize / numberWidth
)

// listBlocks answers how many blocks the numbers of so many pages need.
func listBlocks(count int) int { return (count + perBlock - 1) / perBlock }

// copiesAt answers where the copies begin on a disk that has room for m pages: the list has room for all of them.
func copiesAt(m int) int { return listAt + listBlocks(m) }

// firstPage answers the number of the first page behind the copies there.
func firstPage(m int) int { return copiesAt(m) + m }

// isPage answers whether a page has this number there. Block 0 is the m-th page: so a block may be left behind the others.
func isPage(m, at int) bool {
	return at == 0 || at >= firstPage(m) && at < firstPage(m)+m-1
}

// headOf answers the head's bytes for l, whose numbers stand in these blocks of the list.
func headOf(list []string, l []api.Page) string {
	sum := mix.Sum(strings.Join(list, ""))
	for _, p := range l {
		sum = mix.More(sum, p.Data)
	}
	return block(mark + put(uint64(len(l)), numberWidth) + put(uint64(sum), sumWidth))
}

// told answers how many copies a head tells of; 0, if it is none.
func told(head string) int {
	if !strings.HasPrefix(head, mark) {
		return 0
	}
	return get(head, len(mark))
}

// listOf answers the blocks of the list that are used for l.
func listOf(l []api.Page) []string {
	numbers := make([]string, listBlocks(len(l)))
	for i, p := range l {
		numbers[i/perBlock] += put(uint64(p.At), numberWidth)
	}
	for i := range numbers {
		numbers[i] = block(numbers[i])
	}
	return numbers
}

// groupOf answers the copies as pages, by the numbers that the list tells.
func groupOf(list, copies []string) []api.Page {
	var l []api.Page
	for i, s := range copies {
		l = append(l, api.Page{At: get(list[i/perBlock], i%perBlock*numberWidth), Data: s})
	}
	return l
}

// block answers s with bytes 0 behind it. It asks for no error, nor do put and get: what the journal writes of itself is a block's length at most, its numbers fit, and a block has bytes wherever it looks.
func block(s string) string {
	b, _ := num.Pad(s, api.BlockSize)
	return b
}

func put(n uint64, width int) string {
	s, _ := num.Put(n, width)
	return s
}

// get answers the number that stands at a place of a block.
func get(s string, at int) int {
	n, _ := num.Get(s, at, numberWidth)
	return int(n)
}
