"""Pairs and posts: the most roads of which no two meet, and as few villages at which each road has an end."""

from wellroads.trees import are_below, distances_from, is_number
from wellroads.wells import Answer


class Posts(Answer):
    def __init__(self, pairs, posts):
        self.pairs = list(pairs)
        self.posts = list(posts)

    def shows(self, tree, number):
        roads = tree.roads()
        if not are_below(self.pairs, len(roads)) or not are_below(self.posts, tree.size):
            return False
        if not is_number(number) or len(self.pairs) != number or len(self.posts) != number:
            return False
        return none_meet([roads[at] for at in self.pairs]) and all_posted(roads, self.posts)


def none_meet(roads):
    ends = [road[0] for road in roads] + [road[1] for road in roads]
    return len(set(ends)) == len(ends)


def all_posted(roads, posts):
    return all([road[0] in posts or road[1] in posts for road in roads])


def paired(tree):
    lengths = distances_from(tree, 0)
    roads = tree.roads()
    pairs = []
    posts = []
    # Roads are asked from the outside inwards. One that is left out meets a pair that is
    # no less far out, so it meets it at that one's inner end, where a post is by then.
    for at in sorted(range(len(roads)), key=lambda place: -outer_length(roads[place], lengths)):
        if none_meet([roads[number] for number in pairs + [at]]):
            pairs.append(at)
            posts.append(inner_end(roads[at], lengths))
    return Posts(sorted(pairs), sorted(posts))


def outer_length(road, lengths):
    return max(lengths[road[0]], lengths[road[1]])


def inner_end(road, lengths):
    return road[0] if lengths[road[0]] < lengths[road[1]] else road[1]
