"""Walks through stands, and those of them on which one sum of weights is least beside another one."""

from heirlines.parts import in_lowest

# beside this ratio each walk that has any of the second weight seems to be short
FAR = (99 * 1024, 1)
BEFORE = 0
BEHIND = 1


class Stretch:
    """Shortest walks from some nodes through allowed ones, where steps may be shorter than nothing."""

    def __init__(self, steps, starts):
        # steps has for each allowed node the shortest steps (length, label, node) from it
        self.steps = steps
        self.lengths = dict(starts)
        # the node and the label by which a walk comes
        self.ahead = {}
        self.cycle = None
        changed = list(starts)
        while changed and self.cycle is None:
            changed = self.go_round(changed)
            self.cycle = self.found_cycle()

    def go_round(self, nodes):
        """Go one step on from these nodes; return those to which there is a shorter walk now."""
        shorter = {}
        for node in nodes:
            own = self.lengths[node]
            for length, label, behind in self.steps[node]:
                if behind not in self.lengths or own + length < self.lengths[behind]:
                    self.lengths[behind] = own + length
                    self.ahead[behind] = (node, label)
                    shorter[behind] = True
        return list(shorter)

    def found_cycle(self):
        """A node and the labels of a walk from it to itself that is shorter than nothing, or None."""
        # nodes come one behind another in a round just where walks shrink without end
        seen = {}
        for first in self.ahead:
            node = first
            while node in self.ahead and node not in seen:
                seen[node] = first
                node = self.ahead[node][0]
            if node in self.ahead and seen[node] == first:
                return node, self.labels_around(node)
        return None

    def labels_around(self, node):
        """The labels of the walk from a node to itself."""
        labels = []
        at = node
        while not labels or at != node:
            at, label = self.ahead[at]
            labels.append(label)
        return labels[::-1]

    def walk_to(self, node):
        """The node with which a shortest walk begins, and its labels."""
        labels = []
        # a start to which a shorter walk came isn't one any more
        while node in self.ahead:
            node, label = self.ahead[node]
            labels.append(label)
        return node, labels[::-1]


class Walkways:
    """Nodes with steps by labels; each label has two weights.

    leads has for each node a dict from labels to nodes; weights has for each
    label its pair of weights. Walks begin at the start. The ratio of a walk
    is its sum of first weights divided by that of second ones.
    """

    def __init__(self, leads, weights, start):
        self.leads = leads
        self.weights = weights
        self.start = start
        self.reach = {node: self.found_from(node) for node in leads}
        self.crossed = {}
        self.least_found = {}
        self.sure_found = {}

    def found_from(self, node):
        """The nodes to which walks lead from a node, itself too, each with the node and label ahead."""
        ahead = {node: None}
        waiting = [node]
        while waiting:
            later = []
            for at in waiting:
                for label, behind in self.leads[at].items():
                    if behind not in ahead:
                        ahead[behind] = (at, label)
                        later.append(behind)
            waiting = later
        return ahead

    def labels_to(self, node, target):
        """The labels of a walk from a node to another one."""
        labels = []
        while target != node:
            target, label = self.reach[node][target]
            labels.append(label)
        return tuple(labels[::-1])

    def crossings(self, label, target):
        """The nodes at which the label can be read on a walk to the target."""
        return [node for node in self.reach[self.start] if target in self.reach[self.leads[node][label]]]

    def is_crossed(self, label, target):
        """Whether some walk to the target has the label."""
        if label not in self.crossed:
            behind = {}
            for node in self.leads:
                for one in self.reach[self.leads[node][label]]:
                    behind[one] = True
            self.crossed[label] = behind
        return target in self.crossed[label]

    def walk_with(self, label, target):
        """The labels ahead of a label and those behind it on some walk to the target, or None."""
        nodes = self.crossings(label, target)
        if not nodes:
            return None
        return self.labels_to(self.start, nodes[0]), self.labels_to(self.leads[nodes[0]][label], target)

    def shortest_steps(self, allowed, ratio):
        """For each allowed node the shortest steps to allowed nodes, where the ratio is worth nothing."""
        lengths = {label: first * ratio[1] - second * ratio[0] for label, (first, second) in self.weights.items()}
        steps = {}
        for node in allowed:
            best = {}
            for label, behind in self.leads[node].items():
                if behind in allowed and (behind not in best or lengths[label] < best[behind][0]):
                    best[behind] = (lengths[label], label, behind)
            steps[node] = list(best.values())
        return steps

    def ratio_of(self, labels):
        """The ratio of a walk."""
        first = sum([self.weights[label][0] for label in labels])
        return in_lowest(first, sum([self.weights[label][1] for label in labels]))

    def least_with(self, label, target):
        """The least ratio to which walks to the target tend that have the label, which has a second weight.

        It is a triple: the ratio; a walk that has it, as the labels ahead and
        behind, or None; if there is none, the walk before a loop, the loop
        and the walk behind it, with BEFORE or BEHIND for where the label is.
        """
        if (label, target) not in self.least_found:
            self.least_found[(label, target)] = self.least_by(Crossing(self, label, target))
        return self.least_found[(label, target)]

    def sure_least(self, target):
        """A ratio that is never above that of a walk to the target with a second weight; None if none has one."""
        if target not in self.sure_found:
            self.sure_found[target] = self.least_to(target)
        return self.sure_found[target]

    def least_to(self, target):
        """The least ratio of all walks to the target."""
        allowed = {node: True for node in self.reach[self.start] if target in self.reach[node]}
        ratio = FAR
        while True:
            stretch = Stretch(self.shortest_steps(allowed, ratio), {self.start: 0})
            if stretch.cycle is not None:
                ratio = self.ratio_of(stretch.cycle[1])
            elif stretch.lengths[target] < 0:
                ratio = self.ratio_of(stretch.walk_to(target)[1])
            else:
                return None if ratio == FAR else ratio

    def least_by(self, crossing):
        """The least ratio of the walks of a crossing: closer and closer from above."""
        ratio = FAR
        loop = None
        while True:
            told = crossing.shortest(ratio)
            if told[0] == "loop":
                loop = told[1:]
                ratio = self.ratio_of(loop[1])
            elif told[1] < 0:
                ratio = self.ratio_of(told[2] + (crossing.label,) + told[3])
            elif told[1] == 0:
                return ratio, told[2:], None
            else:
                return ratio, None, crossing.around(loop)


class Crossing:
    """The walks to a target that have a label."""

    def __init__(self, ways, label, target):
        self.ways = ways
        self.label = label
        self.target = target
        self.nodes = ways.crossings(label, target)
        self.before = {node: True for node in ways.reach[ways.start]
                       if any([one in ways.reach[node] for one in self.nodes])}
        self.behind = {node: True for node in ways.reach if target in ways.reach[node]}

    def shortest(self, ratio):
        """A loop that is shorter than nothing, or the length of a shortest walk and the labels ahead and behind."""
        stretch = Stretch(self.ways.shortest_steps(self.before, ratio), {self.ways.start: 0})
        if stretch.cycle is not None:
            return ("loop",) + stretch.cycle + (BEFORE,)
        first, second = self.ways.weights[self.label]
        own = first * ratio[1] - second * ratio[0]
        starts = {}
        origins = {}
        for node in self.nodes:
            behind = self.ways.leads[node][self.label]
            length = stretch.lengths[node] + own
            if behind not in starts or length < starts[behind]:
                starts[behind] = length
                origins[behind] = node
        rest = Stretch(self.ways.shortest_steps(self.behind, ratio), starts)
        if rest.cycle is not None:
            return ("loop",) + rest.cycle + (BEHIND,)
        begin, labels = rest.walk_to(self.target)
        ahead = stretch.walk_to(origins[begin])[1]
        return "walk", rest.lengths[self.target], tuple(ahead), tuple(labels)

    def around(self, loop):
        """A walk with a loop: what is ahead of it, the loop, what is behind it, and where the label is.

        The label itself is told as None.
        """
        node, labels, side = loop
        ways = self.ways
        if side == BEFORE:
            at = [one for one in self.nodes if one in ways.reach[node]][0]
            rest = ways.labels_to(node, at) + (None,) + ways.labels_to(ways.leads[at][self.label], self.target)
            return ways.labels_to(ways.start, node), tuple(labels), rest
        at = [one for one in self.nodes if node in ways.reach[ways.leads[one][self.label]]][0]
        ahead = ways.labels_to(ways.start, at) + (None,) + ways.labels_to(ways.leads[at][self.label], node)
        return ahead, tuple(labels), ways.labels_to(node, self.target)
